package prune

import (
	"slices"
	"testing"

	"hectare/api"
	"hectare/flip"
	"hectare/mesh"
	"hectare/plain"
	"hectare/walls"
)

// eight is a square about its middle, with a corner in the middle of each side.
func eight() list {
	return list{
		tr(0, 0, 2, 0, 2, 2), tr(2, 0, 4, 0, 2, 2), tr(2, 2, 4, 0, 4, 2), tr(2, 2, 4, 2, 4, 4),
		tr(2, 2, 4, 4, 2, 4), tr(0, 4, 2, 2, 2, 4), tr(0, 2, 2, 2, 0, 4), tr(0, 0, 2, 2, 0, 2),
	}
}

// crossing is the ways through the middle of eight, each of two walls.
func crossing() [4][2]api.Wall {
	return [4][2]api.Wall{
		{wl(0, 0, 2, 2, 1), wl(2, 2, 4, 4, 1)}, {wl(0, 2, 2, 2, 1), wl(2, 2, 4, 2, 1)},
		{wl(0, 4, 2, 2, 1), wl(2, 2, 4, 0, 1)}, {wl(2, 0, 2, 2, 1), wl(2, 2, 2, 4, 1)},
	}
}

// free holds Free against what it is to tell.
func free(t *testing.T, l list, row []api.Wall, p api.Point, want bool) {
	t.Helper()
	row = slices.SortedFunc(slices.Values(row), plain.Rising)
	m, s := made(t, l), fixed(t, row)
	if got := Free(m, s, p); got != want {
		t.Errorf("P11.1 Free(%v) of %v with %v: %v", p, l, row, got)
	}
	if !slices.Equal(m.Tris(), made(t, l).Tris()) || !slices.Equal(s.All(), row) {
		t.Errorf("P11.1 Free(%v) of %v with %v changes it", p, l, row)
	}
}

// TestFreeTwo is of the middle where one wall ends, or two, or more, of all ways and kinds.
func TestFreeTwo(t *testing.T) {
	mid := pt(2, 2)
	for i, one := range crossing() {
		free(t, eight(), one[:1], mid, false)
		free(t, eight(), one[1:], mid, false)
		for j, two := range crossing() {
			for x := range 4 {
				v, w := one[x%2], two[x/2]
				if v == w {
					continue
				}
				straight := i == j
				free(t, eight(), []api.Wall{v, w}, mid, straight)
				v.Kind = api.Border
				free(t, eight(), []api.Wall{v, w}, mid, false)
				w.Kind = api.Border
				free(t, eight(), []api.Wall{v, w}, mid, straight)
				if !straight {
					free(t, eight(), []api.Wall{one[0], one[1], w}, mid, false)
					free(t, eight(), []api.Wall{one[0], one[1], two[0], two[1]}, mid, false)
				}
			}
		}
	}
}

// TestFreeOthers is of all points of a square, with no wall at its middle.
func TestFreeOthers(t *testing.T) {
	for _, row := range [][]api.Wall{nil, {wl(2, 0, 4, 2, 1)}, {wl(0, 0, 0, 2, 2), wl(0, 2, 0, 4, 2)}} {
		for x := range 6 {
			for y := range 6 {
				free(t, eight(), row, pt(x, y), x == 2 && y == 2)
			}
		}
		for _, p := range plain.Strangers() {
			free(t, eight(), row, p, false)
		}
	}
	// Where one is missing, its middle is not closed.
	for i := range eight() {
		l := slices.Delete(eight(), i, i+1)
		free(t, l, nil, pt(2, 2), false)
		free(t, l, []api.Wall{wl(0, 0, 2, 2, 1), wl(2, 2, 4, 4, 1)}, pt(2, 2), false)
	}
}

// TestFreeNone is of a nil mesh or Set, and of those that New did not make.
func TestFreeNone(t *testing.T) {
	m, s := made(t, eight()), fixed(t, []api.Wall{wl(0, 0, 2, 2, 1)})
	rows := []struct {
		what string
		m    *mesh.Mesh
		s    *walls.Set
		want bool
	}{
		{"a wall", m, s, false},
		{"no Set, so no wall", m, nil, true},
		{"an empty Set", m, &walls.Set{}, true},
		{"no mesh", nil, nil, false},
		{"no mesh, and an empty Set", nil, &walls.Set{}, false},
		{"an empty mesh", &mesh.Mesh{}, nil, false},
	}
	for _, r := range rows {
		if got := Free(r.m, r.s, pt(2, 2)); got != r.want {
			t.Errorf("P11.1 Free, %s: %v", r.what, got)
		}
		if Free(r.m, r.s, pt(0, 0)) || Free(r.m, r.s, pt(1, 1)) {
			t.Errorf("P11.1 Free, %s, of others", r.what)
		}
	}
}

// poor is eight and a corner more, with walls of all kinds and a bad edge.
func poor(t *testing.T) (*mesh.Mesh, *walls.Set) {
	l := append(eight()[1:], tr(0, 0, 1, 1, 0, 2), tr(0, 0, 2, 0, 1, 1), tr(1, 1, 2, 0, 2, 2), tr(0, 2, 1, 1, 2, 2))
	l = slices.DeleteFunc(l, func(u api.Tri) bool { return u == tr(0, 0, 2, 2, 0, 2) })
	m, s := made(t, l), fixed(t, []api.Wall{
		wl(0, 0, 0, 2, 2), wl(0, 0, 2, 0, 2), wl(0, 2, 0, 4, 2), wl(0, 2, 2, 2, 1), wl(0, 4, 2, 4, 2),
		wl(2, 0, 4, 0, 2), wl(2, 2, 2, 4, 1), wl(2, 4, 4, 4, 2), wl(4, 0, 4, 2, 2), wl(4, 2, 4, 4, 2),
	})
	if e := m.Flip(pt(2, 2), pt(4, 4)); e != api.OK || flip.Good(m, s) {
		t.Fatalf("mesh.Flip: %d, %v", e, flip.Bad(m, s))
	}
	return m, s
}

// TestErrors is the errors, in their order, and that none of them changes anything: what
// is bad is not even repaired.
func TestErrors(t *testing.T) {
	m, s := poor(t)
	tris, row := m.Tris(), s.All()
	same := func(what string, a, b api.Point) {
		t.Helper()
		if !slices.Equal(m.Tris(), tris) || !slices.Equal(s.All(), row) {
			t.Fatalf("P11.1 %s, %v, %v, changes it: %v, %v", what, a, b, m.Tris(), s.All())
		}
	}
	for _, x := range []struct {
		m *mesh.Mesh
		s *walls.Set
	}{{nil, s}, {m, nil}, {nil, nil}, {&mesh.Mesh{}, &walls.Set{}}} {
		for _, p := range append(plain.Strangers(), pt(1, 1), pt(2, 2), pt(0, 0), pt(3, 3)) {
			if e, f := Point(x.m, x.s, p), Wall(x.m, x.s, p, pt(2, 4)); e != api.None || f != api.None {
				t.Errorf("P11.1 of none, %v: %d, %d", p, e, f)
			}
			same("of none", p, p)
		}
	}
	none := [][2]api.Point{
		{pt(0, 0), pt(1, 1)}, {pt(0, 2), pt(1, 1)}, {pt(0, 0), pt(0, 4)}, {pt(2, 2), pt(2, 2)}, {pt(3, 3), pt(3, 3)},
		{pt(2, 2), pt(2, 3)}, {pt(0, 2), pt(4, 2)}, {pt(1, 2), pt(2, 2)}, {pt(0, 0), pt(4, 4)}, {pt(7, 7), pt(8, 8)},
	}
	for _, p := range plain.Strangers() {
		none = append(none, [2]api.Point{p, pt(2, 2)}, [2]api.Point{p, p})
	}
	for _, x := range none {
		if e, f := Wall(m, s, x[0], x[1]), Wall(m, s, x[1], x[0]); e != api.None || f != api.None {
			t.Errorf("P11.1 Wall between %v and %v: %d, %d", x[0], x[1], e, f)
		}
		same("Wall", x[0], x[1])
	}
	for _, p := range append(plain.Strangers(), pt(3, 3), pt(1, 2), pt(0, 1), pt(3, 0), pt(2, 3), pt(1, 0), pt(5, 5)) {
		if e := Point(m, s, p); e != api.None {
			t.Errorf("P11.1 Point(%v), no corner: %d", p, e)
		}
		same("Point", p, p)
	}
	// The corners, the rim, and where walls of one kind make a bend.
	for _, p := range []api.Point{pt(0, 0), pt(4, 0), pt(0, 4), pt(4, 4), pt(2, 0), pt(0, 2), pt(4, 2), pt(2, 4), pt(2, 2)} {
		if e := Point(m, s, p); e != api.Pinned {
			t.Errorf("P11.1 Point(%v), not Free: %d", p, e)
		}
		same("Point", p, p)
	}
	// The rim is not Free without walls either, and the wall there can go.
	for _, x := range [][2]api.Point{{pt(0, 2), pt(0, 0)}, {pt(0, 2), pt(0, 4)}, {pt(2, 2), pt(0, 2)}} {
		if e := Wall(m, s, x[0], x[1]); e != api.OK {
			t.Errorf("P11.1 Wall(%v): %d", x, e)
		}
	}
	if e := Point(m, s, pt(0, 2)); e != api.Pinned || s.Len() != len(row)-3 || len(m.Tris()) != len(tris) {
		t.Errorf("P11.1 Point of the rim, without walls: %d, %v", e, s.All())
	}
}

// TestPointRows is of the middle of holes of few corners.
func TestPointRows(t *testing.T) {
	type ts = list
	ends := ts{tr(0, 0, plain.Far, 0, plain.Far, plain.Far), tr(0, 0, plain.Far, plain.Far, 0, plain.Far)}
	square := ts{tr(0, 0, 4, 0, 4, 4), tr(0, 0, 4, 4, 0, 4)}
	other := ts{tr(0, 0, 4, 0, 0, 4), tr(0, 4, 4, 0, 4, 4)}
	four := ts{tr(0, 0, 2, 2, 0, 4), tr(0, 0, 4, 0, 2, 2), tr(0, 4, 2, 2, 4, 4), tr(2, 2, 4, 0, 4, 4)}
	aside := ts{tr(0, 0, 1, 1, 0, 4), tr(0, 0, 4, 0, 1, 1), tr(0, 4, 1, 1, 4, 4), tr(1, 1, 4, 0, 4, 4)}
	next := ts{tr(0, 0, 1, 3, 0, 4), tr(0, 0, 4, 0, 1, 3), tr(0, 4, 1, 3, 4, 4), tr(1, 3, 4, 0, 4, 4)}
	three := ts{tr(0, 0, 2, 1, 0, 4), tr(0, 0, 4, 0, 2, 1), tr(0, 4, 2, 1, 4, 0), tr(0, 4, 4, 0, 4, 4)}
	wide := ts{tr(0, 0, plain.Far/2, plain.Far/2, 0, plain.Far), tr(0, 0, plain.Far, 0, plain.Far/2, plain.Far/2), tr(0, plain.Far, plain.Far/2, plain.Far/2, plain.Far, plain.Far), tr(plain.Far/2, plain.Far/2, plain.Far, 0, plain.Far, plain.Far)}
	edge := ts{tr(0, 0, plain.Far-1, plain.Far-1, 0, plain.Far), tr(0, 0, plain.Far, 0, plain.Far-1, plain.Far-1), tr(0, plain.Far, plain.Far-1, plain.Far-1, plain.Far, plain.Far), tr(plain.Far-1, plain.Far-1, plain.Far, 0, plain.Far, plain.Far)}
	rows := []struct {
		what string
		l    list
		row  []api.Wall
		p    api.Point
		want list
		left []api.Wall
	}{
		{"the one point in a square", four, nil, pt(2, 2), square, nil},
		{"on a wall, which is the way across at the least", four, []api.Wall{wl(0, 0, 2, 2, 1), wl(2, 2, 4, 4, 1)}, pt(2, 2), square, []api.Wall{wl(0, 0, 4, 4, 1)}},
		{"on a wall, which is the other way across", four, []api.Wall{wl(0, 4, 2, 2, 2), wl(2, 2, 4, 0, 2)}, pt(2, 2), other, []api.Wall{wl(0, 4, 4, 0, 2)}},
		{"on the way across alone", aside, nil, pt(1, 1), square, nil},
		{"on the way across, with a wall", aside, []api.Wall{wl(0, 0, 1, 1, 2), wl(1, 1, 4, 4, 2)}, pt(1, 1), square, []api.Wall{wl(0, 0, 4, 4, 2)}},
		{"on the other way across alone", next, nil, pt(1, 3), square, nil},
		{"on the other way across, with a wall", next, []api.Wall{wl(0, 4, 1, 3, 1), wl(1, 3, 4, 0, 1)}, pt(1, 3), other, []api.Wall{wl(0, 4, 4, 0, 1)}},
		{"in a triangle", three, nil, pt(2, 1), square, nil},
		{"in a triangle, with a wall beside it", three, []api.Wall{wl(0, 4, 4, 0, 1)}, pt(2, 1), other, []api.Wall{wl(0, 4, 4, 0, 1)}},
		{"the middle of the grid", wide, nil, pt(plain.Far/2, plain.Far/2), ends, nil},
		{"at the grid's end", edge, nil, pt(plain.Far-1, plain.Far-1), ends, nil},
		{"at the grid's end, on a wall", edge, []api.Wall{wl(0, 0, plain.Far-1, plain.Far-1, 2), wl(plain.Far-1, plain.Far-1, plain.Far, plain.Far, 2)}, pt(plain.Far-1, plain.Far-1), ends, []api.Wall{wl(0, 0, plain.Far, plain.Far, 2)}},
	}
	for _, r := range rows {
		m, s := made(t, r.l), fixed(t, r.row)
		if e := Point(m, s, r.p); e != api.OK {
			t.Errorf("P11.1 Point, %s: %d", r.what, e)
		}
		if want := made(t, r.want).Tris(); !slices.Equal(m.Tris(), want) || !slices.Equal(s.All(), r.left) {
			t.Errorf("P11.2 Point, %s: %v, %v, want %v, %v", r.what, m.Tris(), s.All(), want, r.left)
		}
		if e := Point(m, s, r.p); e != api.None {
			t.Errorf("P11.1 Point, %s, once more: %d", r.what, e)
		}
	}
}

// TestKept is that a mesh and a Set are changed, and no others of the same triangles and
// walls, nor what was answered ahead.
func TestKept(t *testing.T) {
	m, s := poor(t)
	n, u := poor(t)
	tris, row := m.Tris(), s.All()
	was, all := slices.Clone(tris), slices.Clone(row)
	if e, f := Wall(m, s, pt(2, 2), pt(0, 2)), Point(m, s, pt(1, 1)); e != api.OK || f != api.OK {
		t.Fatalf("P11.1 Wall, Point: %d, %d", e, f)
	}
	if m.Len() != len(tris)-2 || s.Len() != len(row)-1 || !flip.Good(m, s) {
		t.Errorf("P11.1 Wall, Point: %v, %v", m.Tris(), s.All())
	}
	if !slices.Equal(tris, was) || !slices.Equal(row, all) || !slices.Equal(n.Tris(), was) || !slices.Equal(u.All(), all) {
		t.Errorf("P11.1 others changed: %v, %v", n.Tris(), u.All())
	}
}
