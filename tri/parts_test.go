package tri

import (
	"math"
	"math/big"
	"testing"

	"hectare/api"
)

// turns is numbers, each with its place modulo 3, as it is reckoned in big numbers.
func turns() map[int]int {
	m := map[int]int{}
	for _, n := range []int{0, math.MinInt + 9, math.MaxInt - 9, 1 << 31, 1 << 32, -1 << 31, -1 << 32, 1 << 62, -1 << 62} {
		for d := -9; d <= 9; d++ {
			m[n+d] = int(new(big.Int).Mod(big.NewInt(int64(n+d)), big.NewInt(3)).Int64())
		}
	}
	return m
}

func TestCornerEdge(t *testing.T) {
	l := []api.Tri{
		tr(pt(0, 0), pt(4, 0), pt(0, 4)),
		tr(pt(0, 0), pt(far, 0), pt(far, far)),
		tr(pt(4, 0), pt(0, 0), pt(0, 4)), // also of what is not Valid
		tr(pt(math.MinInt, 1), pt(-1, 2), pt(math.MaxInt, 3)),
	}
	for _, u := range l {
		corner := [3]api.Point{u.A, u.B, u.C}
		for i, at := range turns() {
			if got := Corner(u, i); got != corner[at] {
				t.Errorf("P3.2 Corner(%v, %d): %v", u, i, got)
			}
			p, q := Edge(u, i)
			if p != corner[at] || q != corner[(at+1)%3] {
				t.Errorf("P3.2 Edge(%v, %d): %v %v", u, i, p, q)
			}
		}
	}
}

// TestCornerRows is of numbers without any reckoning.
func TestCornerRows(t *testing.T) {
	u := tr(pt(0, 0), pt(4, 0), pt(0, 4))
	rows := []struct {
		i    int
		p, q api.Point
	}{
		{0, u.A, u.B}, {1, u.B, u.C}, {2, u.C, u.A}, {3, u.A, u.B}, {4, u.B, u.C}, {5, u.C, u.A},
		{-1, u.C, u.A}, {-2, u.B, u.C}, {-3, u.A, u.B}, {-4, u.C, u.A},
		{math.MaxInt, u.B, u.C}, {math.MinInt, u.B, u.C}, {math.MaxInt - 1, u.A, u.B}, {math.MinInt + 1, u.C, u.A},
	}
	for _, r := range rows {
		if got := Corner(u, r.i); got != r.p {
			t.Errorf("P3.2 Corner %d: %v", r.i, got)
		}
		if p, q := Edge(u, r.i); p != r.p || q != r.q {
			t.Errorf("P3.2 Edge %d: %v %v", r.i, p, q)
		}
	}
}

// pieces is what the three triangles of a point and an edge each are, in all, and
// whether one of them is nothing.
func pieces(u api.Tri, p api.Point) (all *big.Int, none bool) {
	all = new(big.Int)
	for _, e := range [][2]api.Point{{u.A, u.B}, {u.B, u.C}, {u.C, u.A}} {
		piece := twice(e[0], e[1], p)
		none = none || piece.Sign() == 0
		all.Add(all, piece.Abs(piece))
	}
	return all, none
}

// around is points on u and near to it.
func around(u api.Tri) []api.Point {
	l := append(square(6), corners()...)
	for _, p := range []api.Point{u.A, u.B, u.C} {
		for _, d := range square(3) {
			l = append(l, pt(min(max(p.X+d.X-1, 0), far), min(max(p.Y+d.Y-1, 0), far)))
		}
	}
	for _, e := range [][2]api.Point{{u.A, u.B}, {u.B, u.C}, {u.C, u.A}} {
		l = append(l, pt((e[0].X+e[1].X)/2, (e[0].Y+e[1].Y)/2))
	}
	return append(l, pt((u.A.X+u.B.X+u.C.X)/3, (u.A.Y+u.B.Y+u.C.Y)/3))
}

// TestHasInside holds them against areas: just of a point that a triangle has, the
// three pieces are no more than the whole; just of one inside, each is something.
func TestHasInside(t *testing.T) {
	for _, u := range some() {
		for _, p := range around(u) {
			all, none := pieces(u, p)
			has := all.Cmp(twice(u.A, u.B, u.C)) == 0
			if got := Has(u, p); got != has {
				t.Fatalf("P3.2 Has(%v, %v): %v", u, p, got)
			}
			if got, want := Inside(u, p), has && !none; got != want {
				t.Fatalf("P3.2 Inside(%v, %v): %v", u, p, got)
			}
		}
	}
}

func TestHasInsideRows(t *testing.T) {
	small, great := tr(pt(0, 0), pt(4, 0), pt(0, 4)), tr(pt(0, 0), pt(far, 0), pt(0, far))
	thin := tr(pt(0, 0), pt(far, far-1), pt(far, far))
	rows := []struct {
		what    string
		u       api.Tri
		p       api.Point
		has, in bool
	}{
		{"at A", small, pt(0, 0), true, false},
		{"at B", small, pt(4, 0), true, false},
		{"at C", small, pt(0, 4), true, false},
		{"on the first edge", small, pt(3, 0), true, false},
		{"on the second edge", small, pt(2, 2), true, false},
		{"on the third edge", small, pt(0, 1), true, false},
		{"inside", small, pt(1, 1), true, true},
		{"without", small, pt(3, 2), false, false},
		{"in the first edge's line, without", small, pt(5, 0), false, false},
		{"in the third edge's line, without", small, pt(0, 5), false, false},
		{"in the second edge's line, without", tr(pt(1, 1), pt(3, 2), pt(2, 4)), pt(4, 0), false, false},
		{"inside the great one", great, pt(1, far-2), true, true},
		{"on the great one's edge", great, pt(1, far-1), true, false},
		{"beyond the great one's edge", great, pt(1, far), false, false},
		{"at the grid's end", great, pt(far, 0), true, false},
		{"across from the great one", great, pt(far, far), false, false},
		{"on the thin one's edge", thin, pt(1, 1), true, false},
		{"beside the thin one", thin, pt(1, 0), false, false},
		{"on the thin one's other edge", thin, pt(far-1, far-1), true, false},
		{"beside the thin one's end", thin, pt(far-1, far-2), false, false},
		{"at the thin one's end", thin, pt(far, far-1), true, false},
	}
	for _, r := range rows {
		if got := Has(r.u, r.p); got != r.has {
			t.Errorf("P3.2 %s: Has(%v, %v): %v", r.what, r.u, r.p, got)
		}
		if got := Inside(r.u, r.p); got != r.in {
			t.Errorf("P3.2 %s: Inside(%v, %v): %v", r.what, r.u, r.p, got)
		}
	}
}

// TestNotValid is that nothing is told of a point, or a triangle, that is not
// Valid.
func TestNotValid(t *testing.T) {
	for _, u := range some() {
		for _, p := range strangers() {
			if Has(u, p) || Inside(u, p) {
				t.Errorf("P3.2 %v and %v: %v %v", u, p, Has(u, p), Inside(u, p))
			}
		}
	}
	// On an edge's line, and left of all edges but for the end of the grid.
	edge := tr(pt(0, 0), pt(far, 0), pt(far, far))
	for _, p := range []api.Point{pt(-1, 0), pt(far+1, 0), pt(far+1, far+1), pt(far, -1), pt(far, far+1)} {
		if Has(edge, p) || Inside(edge, p) {
			t.Errorf("P3.2 %v and %v: %v %v", edge, p, Has(edge, p), Inside(edge, p))
		}
	}
	for _, u := range bad() {
		if got := Twice(u); got != 0 {
			t.Errorf("P3.2 Twice(%v): %d", u, got)
		}
		for _, p := range append(append(square(5), u.A, u.B, u.C), append(corners(), strangers()...)...) {
			if Has(u, p) || Inside(u, p) {
				t.Errorf("P3.2 %v and %v: %v %v", u, p, Has(u, p), Inside(u, p))
			}
		}
	}
}

func TestTwice(t *testing.T) {
	rows := []struct {
		u    api.Tri
		want int
	}{
		{tr(pt(0, 0), pt(1, 0), pt(0, 1)), 1},
		{tr(pt(0, 0), pt(4, 0), pt(0, 4)), 16},
		{tr(pt(1, 1), pt(3, 2), pt(2, 5)), 7},
		{tr(pt(far-1, far-1), pt(far, far-1), pt(far, far)), 1},
		{tr(pt(0, 0), pt(far, far-1), pt(far, far)), far},
		{tr(pt(0, 0), pt(far-1, far-2), pt(far, far-1)), 1},
		{tr(pt(0, 0), pt(far, 0), pt(0, far)), 281474943156225},
		{tr(pt(0, far), pt(far, 0), pt(far, far)), 281474943156225},
	}
	for _, r := range rows {
		if got := Twice(r.u); got != r.want {
			t.Errorf("P3.2 Twice(%v): %d, want %d", r.u, got, r.want)
		}
	}
	for _, u := range some() {
		if got, want := Twice(u), twice(u.A, u.B, u.C); want.Cmp(big.NewInt(int64(got))) != 0 {
			t.Errorf("P3.2 Twice(%v): %d, want %v", u, got, want)
		}
	}
}

// TestPoints counts: twice the area is twice the points inside, and those on the
// edges, but for two.
func TestPoints(t *testing.T) {
	l := square(5)
	triples(l, func(a, b, c api.Point) {
		u := tr(a, b, c)
		if !may(a, b, c) {
			return
		}
		in, on := 0, 0
		for _, p := range l {
			if Inside(u, p) {
				in++
			} else if Has(u, p) {
				on++
			}
		}
		if got := Twice(u); got != 2*in+on-2 {
			t.Fatalf("P3.2 Twice(%v): %d, with %d points inside and %d on its edges", u, got, in, on)
		}
	})
}
