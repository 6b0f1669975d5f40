package tri

import (
	"math"
	"math/big"
	"slices"
	"testing"

	"hectare/api"
)

const far = api.Grid - 1

func pt(x, y int) api.Point { return api.Point{X: x, Y: y} }

func tr(a, b, c api.Point) api.Tri { return api.Tri{A: a, B: b, C: c} }

// strangers is points that are not Valid.
func strangers() []api.Point {
	return []api.Point{
		pt(-1, 0), pt(0, -1), pt(-1, -1), pt(far+1, 0), pt(0, far+1), pt(far+1, far+1),
		pt(5, math.MaxInt), pt(math.MaxInt, 5), pt(5, math.MinInt), pt(math.MinInt, 5),
		pt(math.MinInt, math.MaxInt), pt(math.MaxInt, math.MaxInt), pt(math.MinInt, math.MinInt), pt(1<<32, 1<<32),
	}
}

// square is the points of a small grid, the least first.
func square(n int) []api.Point {
	var l []api.Point
	for x := range n {
		for y := range n {
			l = append(l, pt(x, y))
		}
	}
	return l
}

// corners is points at the ends of the grid, and around its middle.
func corners() []api.Point {
	var l []api.Point
	for _, x := range []int{0, 1, far / 2, far - 1, far} {
		for _, y := range []int{0, 1, far/2 + 1, far - 1, far} {
			l = append(l, pt(x, y))
		}
	}
	return l
}

// triples calls do with all threes of some points, each in every order, and with
// one point named twice and thrice.
func triples(l []api.Point, do func(a, b, c api.Point)) {
	for _, a := range l {
		for _, b := range l {
			for _, c := range l {
				do(a, b, c)
			}
		}
	}
}

// orders is three points in each of their six orders.
func orders(a, b, c api.Point) [][3]api.Point {
	return [][3]api.Point{{a, b, c}, {a, c, b}, {b, a, c}, {b, c, a}, {c, a, b}, {c, b, a}}
}

// less is by X, then by Y.
func less(p, q api.Point) bool {
	return p.X < q.X || p.X == q.X && p.Y < q.Y
}

// twice is twice the area that lies left of the way round, in big numbers: of the
// sum over its edges.
func twice(a, b, c api.Point) *big.Int {
	sum := new(big.Int)
	for _, e := range [][2]api.Point{{a, b}, {b, c}, {c, a}} {
		sum.Add(sum, new(big.Int).Mul(big.NewInt(int64(e[0].X)), big.NewInt(int64(e[1].Y))))
		sum.Sub(sum, new(big.Int).Mul(big.NewInt(int64(e[1].X)), big.NewInt(int64(e[0].Y))))
	}
	return sum
}

// may tells whether three points, all of them Valid, may be a triangle as they are
// told.
func may(a, b, c api.Point) bool {
	return twice(a, b, c).Sign() > 0 && less(a, b) && less(a, c)
}

// made is the one order of three points in which they may be a triangle.
func made(a, b, c api.Point) (api.Tri, bool) {
	for _, o := range orders(a, b, c) {
		if may(o[0], o[1], o[2]) {
			return tr(o[0], o[1], o[2]), true
		}
	}
	return api.Tri{}, false
}

// some is triangles of a small grid, and great ones.
func some() []api.Tri {
	var l []api.Tri
	add := func(a, b, c api.Point) {
		if may(a, b, c) {
			l = append(l, tr(a, b, c))
		}
	}
	triples(square(4), add)
	triples([]api.Point{pt(0, 0), pt(1, far-1), pt(far, 0), pt(far, far), pt(0, far)}, add)
	return l
}

// bad is triangles that are not Valid, of which each tells a place otherwise.
func bad() []api.Tri {
	l := []api.Tri{
		{},
		tr(pt(4, 0), pt(0, 4), pt(0, 0)), tr(pt(0, 4), pt(0, 0), pt(4, 0)), // A is not the least
		tr(pt(2, 1), pt(2, 5), pt(0, 3)), tr(pt(2, 5), pt(0, 3), pt(2, 1)),
		tr(pt(2, 5), pt(2, 1), pt(9, 3)), tr(pt(2, 1), pt(9, 1), pt(2, 0)), // A is not the least by Y
		tr(pt(0, 0), pt(0, 4), pt(4, 0)), tr(pt(4, 0), pt(0, 0), pt(0, 4)), // round to the right
		tr(pt(0, 4), pt(4, 0), pt(0, 0)), tr(pt(0, 0), pt(far, far), pt(far, 0)),
		tr(pt(0, 0), pt(2, 0), pt(4, 0)), tr(pt(0, 0), pt(4, 4), pt(2, 2)), tr(pt(1, 1), pt(1, 2), pt(1, 3)), // on one line
		tr(pt(0, 0), pt(1, 1), pt(far, far)),
		tr(pt(0, 0), pt(0, 0), pt(4, 0)), tr(pt(0, 0), pt(4, 0), pt(4, 0)), tr(pt(0, 0), pt(4, 0), pt(0, 0)), // two that are one
		tr(pt(3, 3), pt(3, 3), pt(3, 3)),
	}
	for _, s := range strangers() {
		l = append(l, tr(s, pt(4, 0), pt(0, 4)), tr(pt(0, 0), s, pt(0, 4)), tr(pt(0, 0), pt(4, 0), s), tr(s, s, s))
	}
	// Triangles but for the end of the grid.
	return append(l, tr(pt(-1, 0), pt(4, 0), pt(0, 4)), tr(pt(0, -1), pt(4, 0), pt(0, 4)),
		tr(pt(0, 0), pt(far+1, 0), pt(0, far)), tr(pt(0, 0), pt(far, 0), pt(0, far+1)), tr(pt(0, 0), pt(far, 0), pt(far, far+1)))
}

func TestValid(t *testing.T) {
	for _, l := range [][]api.Point{square(4), corners()} {
		triples(l, func(a, b, c api.Point) {
			if got, want := Valid(tr(a, b, c)), may(a, b, c); got != want {
				t.Fatalf("P3.1 Valid of %v %v %v: %v", a, b, c, got)
			}
		})
	}
	for _, u := range bad() {
		if Valid(u) {
			t.Errorf("P3.1 %v is Valid", u)
		}
	}
}

func TestMake(t *testing.T) {
	want := tr(pt(0, 0), pt(1, 0), pt(0, 1))
	if got, ok := Make(pt(1, 0), pt(0, 0), pt(0, 1)); got != want || !ok {
		t.Errorf("P3.1 the example: %v %v", got, ok)
	}
	want = tr(pt(0, 0), pt(far, 0), pt(far, far))
	for _, o := range orders(want.A, want.B, want.C) {
		if got, ok := Make(o[0], o[1], o[2]); got != want || !ok {
			t.Errorf("P3.1 as great as the grid, %v: %v %v", o, got, ok)
		}
	}
	for _, l := range [][]api.Point{square(4), corners()} {
		triples(l, func(a, b, c api.Point) {
			got, ok := Make(a, b, c)
			if want, may := made(a, b, c); got != want || ok != may {
				t.Fatalf("P3.1 Make(%v, %v, %v): %v %v, want %v %v", a, b, c, got, ok, want, may)
			}
		})
	}
}

func TestMakeNone(t *testing.T) {
	rows := [][3]api.Point{
		{pt(0, 0), pt(4, 0), pt(2, 0)}, {pt(3, 9), pt(3, 1), pt(3, 5)}, {pt(0, far), pt(1, far-1), pt(far, 0)},
		{pt(0, 0), pt(0, 0), pt(4, 1)}, {pt(far, far), pt(far, far), pt(0, 0)}, {pt(5, 5), pt(5, 5), pt(5, 5)},
		{pt(-1, 0), pt(4, 0), pt(0, 4)}, {pt(0, 0), pt(4, -1), pt(0, 4)}, {pt(0, 0), pt(far+1, 0), pt(0, far)},
		{pt(0, 0), pt(far, 0), pt(0, far+1)},
	}
	for _, s := range strangers() {
		rows = append(rows, [3]api.Point{s, pt(4, 0), pt(0, 4)}, [3]api.Point{s, s, pt(0, 4)}, [3]api.Point{s, s, s})
		for _, s2 := range strangers() {
			rows = append(rows, [3]api.Point{s, s2, pt(7, 1)})
		}
	}
	for _, r := range rows {
		for _, o := range orders(r[0], r[1], r[2]) {
			if got, ok := Make(o[0], o[1], o[2]); got != (api.Tri{}) || ok {
				t.Errorf("P3.1 Make(%v): %v %v", o, got, ok)
			}
		}
	}
}

// TestOne is that three points that are not on one line are one triangle: of their
// six orders just one is Valid, and all are made the same, of just these points.
func TestOne(t *testing.T) {
	for _, l := range [][]api.Point{square(4), corners()} {
		triples(l, func(a, b, c api.Point) {
			if twice(a, b, c).Sign() == 0 {
				return
			}
			first, _ := Make(a, b, c)
			valid := 0
			for _, o := range orders(a, b, c) {
				if Valid(tr(o[0], o[1], o[2])) {
					valid++
				}
				if u, ok := Make(o[0], o[1], o[2]); u != first || !ok || !Valid(u) {
					t.Fatalf("P3.3 Make(%v): %v %v, and %v before", o, u, ok, first)
				}
				if got := []api.Point{first.A, first.B, first.C}; !slices.Contains(got, o[0]) {
					t.Fatalf("P3.3 Make(%v): %v", o, first)
				}
			}
			if valid != 1 {
				t.Fatalf("P3.3 %v %v %v: %d orders are Valid", a, b, c, valid)
			}
		})
	}
}

func TestCmp(t *testing.T) {
	rows := []struct {
		s, t api.Tri
		want int
	}{
		{tr(pt(0, 0), pt(4, 0), pt(0, 4)), tr(pt(0, 0), pt(4, 0), pt(0, 4)), 0},
		{tr(pt(0, 0), pt(9, 0), pt(9, 9)), tr(pt(0, 1), pt(4, 0), pt(0, 4)), -1},
		{tr(pt(0, 9), pt(9, 0), pt(9, 9)), tr(pt(1, 0), pt(4, 0), pt(1, 4)), -1},
		{tr(pt(0, 0), pt(4, 0), pt(9, 9)), tr(pt(0, 0), pt(4, 1), pt(0, 4)), -1},
		{tr(pt(0, 0), pt(3, 2), pt(9, 9)), tr(pt(0, 0), pt(4, 0), pt(0, 4)), -1},
		{tr(pt(0, 0), pt(4, 0), pt(0, 4)), tr(pt(0, 0), pt(4, 0), pt(0, 5)), -1},
		{tr(pt(0, 0), pt(4, 0), pt(0, 9)), tr(pt(0, 0), pt(4, 0), pt(1, 4)), -1},
		{tr(pt(0, 0), pt(far, 0), pt(0, far)), tr(pt(0, 0), pt(far, 0), pt(far, far)), -1},
		{api.Tri{}, tr(pt(0, 0), pt(4, 0), pt(0, 4)), -1},
		{api.Tri{}, api.Tri{}, 0},
		{tr(pt(-1, 9), pt(9, 9), pt(9, 9)), api.Tri{}, -1},
		{tr(pt(math.MinInt, 0), pt(9, 9), pt(9, 9)), tr(pt(math.MaxInt, 0), pt(0, 0), pt(0, 0)), -1},
		{tr(pt(1, 1), pt(0, math.MinInt), pt(9, 9)), tr(pt(1, 1), pt(0, math.MaxInt), pt(0, 0)), -1},
		{tr(pt(1, 1), pt(1, 1), pt(math.MinInt, 7)), tr(pt(1, 1), pt(1, 1), pt(math.MaxInt, 7)), -1},
	}
	for _, r := range rows {
		if got, back := Cmp(r.s, r.t), Cmp(r.t, r.s); got != r.want || back != -r.want {
			t.Errorf("P3.1 Cmp of %v and %v: %d, back %d, want %d", r.s, r.t, got, back, r.want)
		}
	}
}

// TestCmpAll is of triangles listed by A, then by B, then by C: each is less than
// all that come after it.
func TestCmpAll(t *testing.T) {
	var l []api.Tri
	triples(square(3), func(a, b, c api.Point) { l = append(l, tr(a, b, c)) })
	for i, s := range l {
		for j, u := range l {
			want := 0
			if i < j {
				want = -1
			} else if i > j {
				want = 1
			}
			if got := Cmp(s, u); got != want {
				t.Fatalf("P3.1 Cmp of %v and %v: %d, want %d", s, u, got, want)
			}
		}
	}
}
