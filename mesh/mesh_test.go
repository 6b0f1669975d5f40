package mesh

import (
	"math"
	"slices"
	"testing"

	"hectare/api"
)

const far = api.Grid - 1

func pt(x, y int) api.Point { return api.Point{X: x, Y: y} }

func tr(a, b, c, d, e, f int) api.Tri { return api.Tri{A: pt(a, b), B: pt(c, d), C: pt(e, f)} }

// square is the points of a small grid, the least first.
func square(n int) []api.Point {
	var l []api.Point
	for x := range n {
		for y := range n {
			l = append(l, pt(x, y))
		}
	}
	return l
}

// twice is twice the area that lies left of the way round.
func twice(a, b, c api.Point) int {
	return (b.X-a.X)*(c.Y-a.Y) - (b.Y-a.Y)*(c.X-a.X)
}

func before(p, q api.Point) bool {
	return p.X < q.X || p.X == q.X && p.Y < q.Y
}

// all is the triangles of some points, as they are told.
func all(l []api.Point) []api.Tri {
	var ts []api.Tri
	for _, a := range l {
		for _, b := range l {
			for _, c := range l {
				if twice(a, b, c) > 0 && before(a, b) && before(a, c) {
					ts = append(ts, api.Tri{A: a, B: b, C: c})
				}
			}
		}
	}
	return ts
}

// bad is triangles that are not Valid.
func bad() []api.Tri {
	return []api.Tri{
		{},
		tr(0, 0, 0, 4, 4, 0),     // round to the right
		tr(4, 0, 0, 4, 0, 0),     // not from the least on
		tr(0, 4, 0, 0, 4, 0),     // nor here
		tr(0, 0, 2, 2, 4, 4),     // on one line
		tr(0, 0, 4, 0, 4, 0),     // a point twice
		tr(0, 0, 0, 0, 4, 4),     // another one
		tr(-1, 0, 4, 0, 0, 4),    // beyond the grid
		tr(0, -1, 4, 0, 0, 4),    // there too
		tr(0, 0, far+1, 0, 0, 4), // and at its far end
		tr(0, 0, 4, 0, 0, far+1), // and at the other one
		tr(math.MinInt, 0, 4, 0, 0, math.MaxInt),
	}
}

// lists is some triangles as a list, to be held against a Mesh.
type lists []api.Tri

// ways is the edges of a triangle, each with its corner across.
func ways(t api.Tri) [3][3]api.Point {
	return [3][3]api.Point{{t.A, t.B, t.C}, {t.B, t.C, t.A}, {t.C, t.A, t.B}}
}

func (l lists) left(a, b api.Point) (api.Tri, bool) {
	for _, t := range l {
		for _, w := range ways(t) {
			if w[0] == a && w[1] == b {
				return t, true
			}
		}
	}
	return api.Tri{}, false
}

// may tells whether all of them may be side by side.
func (l lists) may() bool {
	for i, t := range l {
		if twice(t.A, t.B, t.C) <= 0 || !before(t.A, t.B) || !before(t.A, t.C) {
			return false
		}
		for _, w := range ways(t) {
			if _, there := l[:i].left(w[0], w[1]); there {
				return false
			}
		}
	}
	return true
}

func (l lists) sorted() []api.Tri {
	s := slices.Clone([]api.Tri(l))
	slices.SortFunc(s, func(t, u api.Tri) int {
		for i, w := range ways(t) {
			if v := ways(u)[i]; before(w[0], v[0]) {
				return -1
			} else if w[0] != v[0] {
				return 1
			}
		}
		return 0
	})
	return s
}

func (l lists) points() []api.Point {
	var ps []api.Point
	for _, t := range l {
		for _, p := range []api.Point{t.A, t.B, t.C} {
			if !slices.Contains(ps, p) {
				ps = append(ps, p)
			}
		}
	}
	slices.SortFunc(ps, func(p, q api.Point) int {
		if before(p, q) {
			return -1
		}
		return 1
	})
	return ps
}

// same holds a Mesh against a list: everything that can be asked of it, over the
// points and triangles of near.
func same(t *testing.T, what string, m *Mesh, l lists, near []api.Point, some []api.Tri) {
	t.Helper()
	if got := m.Tris(); !slices.Equal(got, l.sorted()) {
		t.Fatalf("%s: Tris %v, want %v", what, got, l.sorted())
	}
	if m.Len() != len(l) {
		t.Fatalf("%s: Len %d, want %d", what, m.Len(), len(l))
	}
	if got := m.Points(); !slices.Equal(got, l.points()) {
		t.Fatalf("%s: Points %v, want %v", what, got, l.points())
	}
	for _, a := range near {
		for _, b := range near {
			got, ok := m.Left(a, b)
			if want, there := l.left(a, b); got != want || ok != there {
				t.Fatalf("%s: Left(%v, %v): %v %v, want %v %v", what, a, b, got, ok, want, there)
			}
		}
	}
	for _, u := range some {
		there := slices.Contains(l, u)
		if m.Has(u) != there {
			t.Fatalf("%s: Has(%v): %v", what, u, m.Has(u))
		}
		for i, w := range ways(u) {
			want, beyond := l.left(w[1], w[0])
			if !there {
				want, beyond = api.Tri{}, false
			}
			if got, ok := m.Across(u, i); got != want || ok != beyond {
				t.Fatalf("%s: Across(%v, %d): %v %v, want %v %v", what, u, i, got, ok, want, beyond)
			}
		}
	}
}

// made is a Mesh of triangles that may be.
func made(t *testing.T, l ...api.Tri) *Mesh {
	t.Helper()
	m, e := New(l)
	if m == nil || e != api.OK {
		t.Fatalf("P5.1 New(%v): %v %d", l, m, e)
	}
	return m
}

func TestNewRows(t *testing.T) {
	a, b := tr(0, 0, 4, 0, 4, 4), tr(0, 0, 4, 4, 0, 4)
	rows := []struct {
		what string
		l    []api.Tri
		want api.Errno
	}{
		{"nil", nil, api.OK},
		{"an empty list", []api.Tri{}, api.OK},
		{"one", []api.Tri{a}, api.OK},
		{"two side by side", []api.Tri{a, b}, api.OK},
		{"two with one corner in common", []api.Tri{a, tr(4, 4, 8, 4, 8, 8)}, api.OK},
		{"two with nothing in common", []api.Tri{a, tr(9, 9, 10, 9, 9, 10)}, api.OK},
		{"two that overlap, no edge twice", []api.Tri{a, tr(1, 0, 5, 0, 5, 4)}, api.OK},
		{"two with an edge each on one line", []api.Tri{a, tr(0, 0, 5, 0, 5, 5)}, api.OK},
		{"at the grid's ends", []api.Tri{tr(0, 0, far, 0, far, far), tr(0, 0, far, far, 0, far)}, api.OK},
		{"one twice", []api.Tri{a, a}, api.Malformed},
		{"one twice, apart", []api.Tri{a, b, a}, api.Malformed},
		{"two on one side of the first edge", []api.Tri{a, tr(0, 0, 4, 0, 0, 4)}, api.Malformed},
		{"two on one side of the second edge", []api.Tri{a, tr(2, 1, 4, 0, 4, 4)}, api.Malformed},
		{"two on one side of the third edge", []api.Tri{a, tr(0, 0, 9, 0, 4, 4)}, api.Malformed},
	}
	for _, r := range rows {
		m, e := New(r.l)
		if e != r.want || (m != nil) != (e == api.OK) {
			t.Errorf("P5.1 New of %s: %v %d, want %d", r.what, m, e, r.want)
		}
	}
	for _, u := range bad() {
		for _, l := range [][]api.Tri{{u}, {u, a}, {a, u}, {a, u, b}} {
			if m, e := New(l); m != nil || e != api.Malformed {
				t.Errorf("P5.1 New(%v): %v %d", l, m, e)
			}
		}
	}
}

// TestNewAll is of all twos of a small grid's triangles, and of the threes of some.
func TestNewAll(t *testing.T) {
	near := square(3)
	some := all(near)
	for i, u := range some {
		for j, v := range some {
			l := lists{u, v}
			m, e := New(l)
			if (e == api.OK) != l.may() || (m != nil) != (e == api.OK) || e != api.OK && e != api.Malformed {
				t.Fatalf("P5.1 New(%v): %v %d", l, m, e)
			}
			if e == api.OK && (i+j)%7 == 0 {
				same(t, "P5.1", m, l, near, some)
			}
			k := (5*i + 3*j) % len(some)
			l = append(l, some[k])
			if m, e := New(l); (e == api.OK) != l.may() || (m != nil) != (e == api.OK) {
				t.Fatalf("P5.1 New(%v): %v %d", l, m, e)
			}
		}
	}
}

// strip is a square of n by n places, each of two triangles.
func strip(n int) []api.Tri {
	var l []api.Tri
	for _, p := range square(n) {
		x, y := p.X, p.Y
		l = append(l, tr(x, y, x+1, y+1, x, y+1), tr(x, y, x+1, y, x+1, y+1))
	}
	return l
}

func TestStrip(t *testing.T) {
	l := strip(3)
	near := square(5)
	same(t, "P5.1", made(t, l...), l, near, all(square(4)))
	slices.Reverse(l)
	same(t, "P5.1", made(t, l...), l, near, nil)
}

func TestNeighbours(t *testing.T) {
	a, b := tr(0, 0, 4, 0, 4, 4), tr(0, 0, 4, 4, 0, 4)
	m := made(t, a, b)
	rows := []struct {
		u    api.Tri
		i    int
		want api.Tri
		ok   bool
	}{
		{a, 0, api.Tri{}, false}, {a, 1, api.Tri{}, false}, {a, 2, b, true},
		{b, 0, a, true}, {b, 1, api.Tri{}, false}, {b, 2, api.Tri{}, false},
		{a, 5, b, true}, {a, -1, b, true}, {a, -2, api.Tri{}, false}, {a, math.MaxInt, api.Tri{}, false},
		{b, -3, a, true}, {b, math.MinInt + 2, a, true}, {b, math.MinInt, api.Tri{}, false},
		{tr(4, 0, 4, 4, 0, 0), 1, api.Tri{}, false}, // a, but not as it is told
		{tr(0, 0, 4, 0, 0, 4), 0, api.Tri{}, false}, // an edge of it is there
		{tr(0, 0, 4, 4, 1, 4), 0, api.Tri{}, false}, // an edge with a triangle beyond
		{api.Tri{}, 0, api.Tri{}, false},
	}
	for _, r := range rows {
		if got, ok := m.Across(r.u, r.i); got != r.want || ok != r.ok {
			t.Errorf("P5.1 Across(%v, %d): %v %v", r.u, r.i, got, ok)
		}
	}
	for _, u := range append(bad(), tr(4, 0, 4, 4, 0, 0), tr(0, 0, 4, 0, 0, 4)) {
		if m.Has(u) {
			t.Errorf("P5.1 Has(%v)", u)
		}
	}
	for _, w := range [][2]api.Point{{pt(0, 0), pt(0, 0)}, {pt(4, 0), pt(0, 0)}, {pt(-1, 0), pt(0, 0)}, {pt(math.MinInt, 0), pt(math.MaxInt, 0)}} {
		if u, ok := m.Left(w[0], w[1]); ok || u != (api.Tri{}) {
			t.Errorf("P5.1 Left(%v): %v %v", w, u, ok)
		}
	}
}

// TestThose is of the ones that are asked for, on which package walk leans.
func TestThose(t *testing.T) {
	l := strip(4)
	m := made(t, l...)
	for name, asked := range map[string]func(api.Tri) bool{
		"all":  func(api.Tri) bool { return true },
		"none": func(api.Tri) bool { return false },
		"some": func(u api.Tri) bool { return (u.A.X+u.C.Y)%2 == 0 },
		"one":  func(u api.Tri) bool { return u == l[5] },
	} {
		want := slices.DeleteFunc(lists(l).sorted(), func(u api.Tri) bool { return !asked(u) })
		for range 3 {
			got := m.Those(asked)
			if !slices.Equal(got, want) {
				t.Errorf("P5.1 Those, %s: %v, want %v", name, got, want)
			}
			clear(got[:cap(got)])
		}
		var no *Mesh
		if got := append(no.Those(asked), new(Mesh).Those(asked)...); len(got) > 0 {
			t.Errorf("P5.2 Those of no triangles, %s: %v", name, got)
		}
	}
	same(t, "P5.3 after Those", m, l, square(5), nil)
}

// TestApex is of the corner across from each edge, named from either end, on which
// package flip leans.
func TestApex(t *testing.T) {
	for _, u := range all(square(3)) {
		for _, w := range ways(u) {
			if got, back := Apex(u, w[0], w[1]), Apex(u, w[1], w[0]); got != w[2] || back != w[2] {
				t.Errorf("P5.2 Apex(%v, %v, %v): %v, and %v the other way", u, w[0], w[1], got, back)
			}
		}
	}
}

// TestCopy is that a Copy is the same, and that the two have nothing in common.
func TestCopy(t *testing.T) {
	a, b := tr(0, 0, 4, 0, 4, 4), tr(0, 0, 4, 4, 0, 4)
	some := append(bad(), a, b, tr(0, 0, 4, 0, 0, 4))
	m := made(t, a, b)
	n := m.Copy()
	same(t, "P5.1 a Copy", n, []api.Tri{a, b}, square(5), some)
	if e := n.Flip(pt(0, 0), pt(4, 4)); e != api.OK {
		t.Errorf("P5.2 Flip of a Copy: %d", e)
	}
	same(t, "P5.3 what a Copy was made of", m, []api.Tri{a, b}, square(5), some)
	if e := m.Replace([]api.Tri{a}, nil); e != api.OK || n.Len() != 2 || n.Has(a) {
		t.Errorf("P5.3 a Copy changes with what it was made of: %d, %v", e, n.Tris())
	}
	var none *Mesh
	if none.Copy() != nil {
		t.Errorf("P5.2 a Copy of a nil Mesh")
	}
	zero := (&Mesh{}).Copy()
	if e := zero.Replace(nil, []api.Tri{a}); e != api.OK || zero.Len() != 1 {
		t.Errorf("P5.2 Replace of the Copy of a zero Mesh: %d", e)
	}
}

func TestNil(t *testing.T) {
	var m *Mesh
	a := tr(0, 0, 4, 0, 4, 4)
	same(t, "P5.2 a nil Mesh", m, nil, square(5), append(bad(), a))
	for _, l := range [][]api.Tri{nil, {}, {a}, bad()} {
		for _, k := range [][]api.Tri{nil, {}, {a}, bad()} {
			if e := m.Replace(l, k); e != api.None {
				t.Errorf("P5.2 Replace(%v, %v) of a nil Mesh: %d", l, k, e)
			}
		}
	}
	for _, p := range square(2) {
		if e := m.Flip(pt(0, 0), p); e != api.None {
			t.Errorf("P5.2 Flip of a nil Mesh: %d", e)
		}
	}
}

// TestZero is that one which New did not make is as one of no triangles.
func TestZero(t *testing.T) {
	var m Mesh
	a := tr(0, 0, 4, 0, 4, 4)
	same(t, "P5.1 a zero Mesh", &m, nil, square(5), append(bad(), a))
	if e := m.Replace([]api.Tri{a}, []api.Tri{a}); e != api.None {
		t.Errorf("P5.2 Replace: %d", e)
	}
	if e := m.Replace(nil, []api.Tri{a}); e != api.OK || !m.Has(a) {
		t.Errorf("P5.2 Replace: %d", e)
	}
}
