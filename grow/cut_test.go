package grow

import (
	"math"
	"slices"
	"testing"

	"hectare/api"
	"hectare/tri"
)

const far = api.Grid - 1

func pt(x, y int) api.Point { return api.Point{X: x, Y: y} }

func tr(a, b, c, d, e, f int) api.Tri { return api.Tri{A: pt(a, b), B: pt(c, d), C: pt(e, f)} }

func wl(a, b, c, d, kind int) api.Wall { return api.Wall{A: pt(a, b), B: pt(c, d), Kind: kind} }

// strangers is points that are not Valid.
func strangers() []api.Point {
	return []api.Point{
		pt(-1, 2), pt(2, -1), pt(far+1, 2), pt(2, far+1), pt(-1, -1), pt(far+1, far+1),
		pt(math.MinInt, 2), pt(2, math.MinInt), pt(math.MaxInt, math.MaxInt), pt(2+1<<32, 2),
	}
}

func TestCutRows(t *testing.T) {
	type ts = []api.Tri
	a := tr(0, 0, 6, 0, 0, 6)
	rows := []struct {
		what string
		t    api.Tri
		p    api.Point
		want ts
	}{
		{"inside", a, pt(1, 2), ts{tr(0, 0, 1, 2, 0, 6), tr(0, 0, 6, 0, 1, 2), tr(0, 6, 1, 2, 6, 0)}},
		{"on the first edge", a, pt(2, 0), ts{tr(0, 0, 2, 0, 0, 6), tr(0, 6, 2, 0, 6, 0)}},
		{"on the second edge", a, pt(2, 4), ts{tr(0, 0, 2, 4, 0, 6), tr(0, 0, 6, 0, 2, 4)}},
		{"on the third edge", a, pt(0, 5), ts{tr(0, 0, 6, 0, 0, 5), tr(0, 5, 6, 0, 0, 6)}},
		{"the first corner", a, pt(0, 0), nil},
		{"the second corner", a, pt(6, 0), nil},
		{"the third corner", a, pt(0, 6), nil},
		{"without", a, pt(4, 4), nil},
		{"on the line of an edge", a, pt(7, 0), nil},
		{"on the line of the other one", a, pt(0, 7), nil},
		{"far from it", a, pt(far, far), nil},
		{"round to the right", tr(0, 0, 0, 6, 6, 0), pt(1, 2), nil},
		{"not from the least on", tr(6, 0, 0, 6, 0, 0), pt(1, 2), nil},
		{"on one line", tr(0, 0, 2, 2, 4, 4), pt(1, 1), nil},
		{"a point", api.Tri{}, pt(0, 0), nil},
		{"beyond the grid", tr(0, 0, far+1, 0, 0, 6), pt(1, 2), nil},
		{"all of the grid", tr(0, 0, far, 0, far, far), pt(far-1, 1), ts{tr(0, 0, far-1, 1, far, far), tr(0, 0, far, 0, far-1, 1), tr(far-1, 1, far, 0, far, far)}},
		{"on a long edge", tr(0, 0, far, 0, far, far), pt(1, 1), ts{tr(0, 0, far, 0, 1, 1), tr(1, 1, far, 0, far, far)}},
		{"beside a long edge", tr(0, 0, far, far-1, far, far), pt(far-1, far-1), ts{tr(0, 0, far, far-1, far-1, far-1), tr(far-1, far-1, far, far-1, far, far)}},
	}
	for _, r := range rows {
		want := slices.SortedFunc(slices.Values(r.want), tri.Cmp)
		if got := Cut(r.t, r.p); !slices.Equal(got, want) {
			t.Errorf("P9.1 Cut, %s: %v, want %v", r.what, got, want)
		}
	}
	for _, p := range strangers() {
		for _, u := range []api.Tri{a, {A: p, B: pt(6, 0), C: pt(0, 6)}, {A: pt(0, 0), B: p, C: pt(0, 6)}, {A: pt(0, 0), B: pt(6, 0), C: p}} {
			for _, q := range []api.Point{p, pt(1, 2), pt(2, 0)} {
				if got := Cut(u, q); len(got) > 0 && (u != a || q == p) {
					t.Errorf("P9.1 Cut(%v, %v): %v", u, q, got)
				}
			}
		}
	}
}

// TestCutAll is of all triangles and points of a small grid: the parts are in order,
// each with a corner at the point, and make up the whole.
func TestCutAll(t *testing.T) {
	var near []api.Point
	for x := range 5 {
		for y := range 5 {
			near = append(near, pt(x, y))
		}
	}
	for i := range 25 * 25 * 25 {
		u := api.Tri{A: near[i%25], B: near[i/25%25], C: near[i/625]}
		for _, p := range near {
			want := 0
			switch {
			case p == u.A || p == u.B || p == u.C:
			case tri.Inside(u, p):
				want = 3
			case tri.Has(u, p):
				want = 2
			}
			got := Cut(u, p)
			if len(got) != want || !slices.IsSortedFunc(got, tri.Cmp) {
				t.Fatalf("P9.1 Cut(%v, %v): %v", u, p, got)
			}
			area := 0
			for _, v := range got {
				if !tri.Valid(v) || v.A != p && v.B != p && v.C != p {
					t.Fatalf("P9.1 Cut(%v, %v): %v", u, p, got)
				}
				for i := range 3 {
					if c := tri.Corner(v, i); c != p && c != u.A && c != u.B && c != u.C {
						t.Fatalf("P9.1 Cut(%v, %v): %v", u, p, got)
					}
				}
				area += tri.Twice(v)
			}
			if want > 0 && area != tri.Twice(u) {
				t.Fatalf("P9.3 Cut(%v, %v): %v", u, p, got)
			}
		}
	}
}

func TestCutKept(t *testing.T) {
	u := tr(0, 0, 6, 0, 0, 6)
	one, two := Cut(u, pt(1, 1)), Cut(u, pt(1, 1))
	want := slices.Clone(two)
	clear(one[:cap(one)])
	if again := Cut(u, pt(1, 1)); len(want) != 3 || !slices.Equal(two, want) || !slices.Equal(again, want) {
		t.Errorf("P9.1 Cut shares memory: %v, %v, want %v", two, again, want)
	}
}
