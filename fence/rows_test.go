package fence

import (
	"math"
	"slices"
	"testing"

	"hectare/api"
	"hectare/mesh"
	"hectare/plain"
	"hectare/walls"
)

// middle is a square of four, about its middle.
func middle() list {
	return list{tr(0, 0, 2, 2, 0, 4), tr(0, 0, 4, 0, 2, 2), tr(0, 4, 2, 2, 4, 4), tr(2, 2, 4, 0, 4, 4)}
}

func TestPartsRows(t *testing.T) {
	ends := list{tr(0, 0, plain.Far, 0, plain.Far, plain.Far), tr(0, 0, plain.Far, plain.Far, 0, plain.Far)}
	steps := list{tr(0, 0, 2, 0, 2, 1), tr(2, 1, 6, 0, 6, 3), tr(3, 7, 4, 2, 5, 5)}
	type ps = []api.Point
	rows := []struct {
		what string
		l    list
		a, b api.Point
		want ps
		e    api.Errno
	}{
		{"an edge", middle(), pt(0, 0), pt(2, 2), ps{pt(0, 0), pt(2, 2)}, api.OK},
		{"an edge, back", middle(), pt(2, 2), pt(0, 0), ps{pt(2, 2), pt(0, 0)}, api.OK},
		{"over a corner", middle(), pt(0, 0), pt(4, 4), ps{pt(0, 0), pt(2, 2), pt(4, 4)}, api.OK},
		{"over a corner, downward", middle(), pt(0, 4), pt(4, 0), ps{pt(0, 4), pt(2, 2), pt(4, 0)}, api.OK},
		{"over a corner, upward and back", middle(), pt(4, 0), pt(0, 4), ps{pt(4, 0), pt(2, 2), pt(0, 4)}, api.OK},
		{"along a rim", middle(), pt(4, 4), pt(4, 0), ps{pt(4, 4), pt(4, 0)}, api.OK},
		{"no edge", ends, pt(0, plain.Far), pt(plain.Far, 0), ps{pt(0, plain.Far), pt(plain.Far, 0)}, api.OK},
		{"from the grid's end to its other end", ends, pt(plain.Far, plain.Far), pt(0, 0), ps{pt(plain.Far, plain.Far), pt(0, 0)}, api.OK},
		{"of triangles that stand apart", steps, pt(0, 0), pt(6, 3), ps{pt(0, 0), pt(2, 1), pt(4, 2), pt(6, 3)}, api.OK},
		{"not those beyond its ends", steps, pt(4, 2), pt(2, 1), ps{pt(4, 2), pt(2, 1)}, api.OK},
		{"straight up", steps, pt(2, 1), pt(2, 0), ps{pt(2, 1), pt(2, 0)}, api.OK},
		{"its beginning is no corner", middle(), pt(1, 1), pt(4, 4), nil, api.None},
		{"its end is no corner", middle(), pt(0, 0), pt(3, 3), nil, api.None},
		{"its end is without", middle(), pt(0, 0), pt(5, 5), nil, api.None},
		{"neither is a corner", middle(), pt(1, 1), pt(3, 3), nil, api.None},
		{"nothing is on it", middle(), pt(1, 0), pt(1, 1), nil, api.None},
		{"one point", middle(), pt(2, 2), pt(2, 2), nil, api.Malformed},
		{"one point, no corner", middle(), pt(1, 1), pt(1, 1), nil, api.Malformed},
		{"no triangles", nil, pt(0, 0), pt(4, 4), nil, api.None},
	}
	for _, r := range rows {
		m := made(t, r.l)
		if got, e := Parts(m, r.a, r.b); e != r.e || !slices.Equal(got, r.want) {
			t.Errorf("P10.1 Parts, %s: %v, %d, want %v, %d", r.what, got, e, r.want, r.e)
		}
		if !slices.Equal(m.Tris(), made(t, r.l).Tris()) {
			t.Errorf("P10.1 Parts, %s, changed the mesh: %v", r.what, m.Tris())
		}
	}
	m := made(t, middle())
	for _, p := range plain.Strangers() {
		for _, q := range append(plain.Strangers(), pt(0, 0), pt(1, 1)) {
			for _, x := range []*mesh.Mesh{m, nil, {}} {
				if got, e := Parts(x, p, q); e != api.Malformed || len(got) > 0 {
					t.Errorf("P10.1 Parts(%v, %v): %v, %d", p, q, got, e)
				}
				if got, e := Parts(x, q, p); e != api.Malformed || len(got) > 0 {
					t.Errorf("P10.1 Parts(%v, %v): %v, %d", q, p, got, e)
				}
			}
		}
	}
	for _, x := range []*mesh.Mesh{nil, {}} {
		if got, e := Parts(x, pt(0, 0), pt(4, 4)); e != api.None || len(got) > 0 {
			t.Errorf("P10.1 Parts of no mesh: %v, %d", got, e)
		}
		if got, e := Parts(x, pt(2, 2), pt(2, 2)); e != api.Malformed || len(got) > 0 {
			t.Errorf("P10.1 Parts of no mesh, one point: %v, %d", got, e)
		}
	}
}

func TestWallRows(t *testing.T) {
	type ws = []api.Wall
	wide := list{tr(0, 0, 4, 0, 4, 4), tr(0, 0, 4, 4, 0, 4)}
	across := list{tr(0, 0, 4, 0, 0, 4), tr(0, 4, 4, 0, 4, 4)}
	rows := []struct {
		what string
		l    list
		s    ws
		a, b api.Point
		kind int
		row  ws
		then list
	}{
		{"an edge", middle(), nil, pt(0, 0), pt(2, 2), 1, ws{wl(0, 0, 2, 2, 1)}, middle()},
		{"an edge of the rim", middle(), nil, pt(4, 4), pt(0, 4), 2, ws{wl(0, 4, 4, 4, 2)}, middle()},
		{"over a corner: two walls", middle(), nil, pt(4, 4), pt(0, 0), 1, ws{wl(0, 0, 2, 2, 1), wl(2, 2, 4, 4, 1)}, middle()},
		{"over a corner: two borders", middle(), nil, pt(0, 4), pt(4, 0), 2, ws{wl(0, 4, 2, 2, 2), wl(2, 2, 4, 0, 2)}, middle()},
		{"the other way across", wide, nil, pt(0, 4), pt(4, 0), 1, ws{wl(0, 4, 4, 0, 1)}, across},
		{"the other way across, back", wide, nil, pt(4, 0), pt(0, 4), 2, ws{wl(0, 4, 4, 0, 2)}, across},
		{"one that is cut wrong is cut right", across, nil, pt(0, 0), pt(0, 4), 1, ws{wl(0, 0, 0, 4, 1)}, wide},
		{"beside one that ends there", middle(), ws{wl(0, 0, 2, 2, 2)}, pt(2, 2), pt(4, 4), 1, ws{wl(0, 0, 2, 2, 2), wl(2, 2, 4, 4, 1)}, middle()},
		{"all of the grid", list{tr(0, 0, plain.Far, 0, plain.Far, plain.Far), tr(0, 0, plain.Far, plain.Far, 0, plain.Far)}, nil, pt(0, plain.Far), pt(plain.Far, 0), 1,
			ws{wl(0, plain.Far, plain.Far, 0, 1)}, list{tr(0, 0, plain.Far, 0, 0, plain.Far), tr(0, plain.Far, plain.Far, 0, plain.Far, plain.Far)}},
		// From end to end, with a point close by: first the one edge across, then the other one.
		{"past a point", list{tr(0, 0, 6, 3, 0, 6), tr(0, 0, 12, 0, 6, 3), tr(0, 6, 6, 3, 12, 6), tr(6, 3, 12, 0, 12, 6)}, nil, pt(0, 0), pt(12, 6), 1,
			ws{wl(0, 0, 6, 3, 1), wl(6, 3, 12, 6, 1)}, list{tr(0, 0, 6, 3, 0, 6), tr(0, 0, 12, 0, 6, 3), tr(0, 6, 6, 3, 12, 6), tr(6, 3, 12, 0, 12, 6)}},
		{"close by a point", list{tr(0, 0, 6, 4, 0, 6), tr(0, 0, 12, 0, 6, 4), tr(0, 6, 6, 4, 12, 6), tr(6, 4, 12, 0, 12, 6)}, nil, pt(0, 0), pt(12, 6), 1,
			ws{wl(0, 0, 12, 6, 1)}, list{tr(0, 0, 6, 4, 0, 6), tr(0, 0, 12, 6, 6, 4), tr(0, 6, 6, 4, 12, 6), tr(0, 0, 12, 0, 12, 6)}},
	}
	for _, r := range rows {
		m, s := made(t, r.l), fixed(t, r.s)
		if e := Wall(m, s, r.a, r.b, r.kind); e != api.OK {
			t.Errorf("P10.1 Wall, %s: %d", r.what, e)
		}
		if got := m.Tris(); !slices.Equal(got, made(t, r.then).Tris()) {
			t.Errorf("P10.1 Wall, %s: %v, want %v", r.what, got, r.then)
		}
		if !slices.Equal(s.All(), r.row) {
			t.Errorf("P10.1 Wall, %s: walls %v, want %v", r.what, s.All(), r.row)
		}
		again := s.All()
		if e := Wall(m, s, r.b, r.a, 3-r.kind); e != api.Have || !slices.Equal(s.All(), again) {
			t.Errorf("P10.1 Wall, %s, once more, of the other kind: %d, %v", r.what, e, s.All())
		}
	}
}

// TestErrors is of what is refused, in the order in which it is told: nothing changes.
func TestErrors(t *testing.T) {
	m, s := made(t, middle()), fixed(t, []api.Wall{wl(0, 0, 2, 2, 2), wl(0, 0, 4, 0, 1)})
	tris, row := m.Tris(), s.All()
	stray := plain.Strangers()[0]
	rows := []struct {
		what string
		m    *mesh.Mesh
		s    *walls.Set
		a, b api.Point
		kind int
		want api.Errno
	}{
		{"a nil mesh", nil, s, pt(2, 2), pt(4, 4), 1, api.None},
		{"a nil Set", m, nil, pt(2, 2), pt(4, 4), 1, api.None},
		{"both nil", nil, nil, pt(2, 2), pt(4, 4), 1, api.None},
		{"a nil mesh, ahead of another kind", nil, s, pt(2, 2), pt(4, 4), 0, api.None},
		{"a nil Set, ahead of another kind", m, nil, pt(2, 2), pt(4, 4), 3, api.None},
		{"a nil mesh, ahead of one point", nil, s, pt(2, 2), pt(2, 2), 1, api.None},
		{"a nil Set, ahead of one that is not Valid", m, nil, pt(2, 2), stray, 1, api.None},
		{"kind 0", m, s, pt(2, 2), pt(4, 4), 0, api.Malformed},
		{"kind 3", m, s, pt(2, 2), pt(4, 4), 3, api.Malformed},
		{"kind -1", m, s, pt(2, 2), pt(4, 4), -1, api.Malformed},
		{"the greatest kind", m, s, pt(2, 2), pt(4, 4), math.MaxInt, api.Malformed},
		{"another kind, ahead of no corner", m, s, pt(1, 1), pt(4, 4), 0, api.Malformed},
		{"another kind, ahead of Have", m, s, pt(2, 2), pt(0, 0), 3, api.Malformed},
		{"one point", m, s, pt(2, 2), pt(2, 2), 1, api.Malformed},
		{"one point, no corner", m, s, pt(1, 1), pt(1, 1), 1, api.Malformed},
		{"not Valid, ahead of no corner", m, s, pt(1, 1), stray, 1, api.Malformed},
		{"not Valid, the first one", m, s, stray, pt(4, 4), 1, api.Malformed},
		{"the end is no corner", m, s, pt(2, 2), pt(3, 3), 1, api.None},
		{"the beginning is no corner", m, s, pt(3, 3), pt(2, 2), 2, api.None},
		{"no corner, ahead of Have of its first part", m, s, pt(0, 0), pt(3, 3), 1, api.None},
		{"no triangles", &mesh.Mesh{}, s, pt(2, 2), pt(4, 4), 1, api.None},
		{"it is there", m, s, pt(0, 0), pt(2, 2), 2, api.Have},
		{"it is there, of the other kind", m, s, pt(2, 2), pt(0, 0), 1, api.Have},
		{"its first part is there", m, s, pt(0, 0), pt(4, 4), 1, api.Have},
		{"its last part is there", m, s, pt(4, 4), pt(0, 0), 1, api.Have},
		{"it is there, of another border", m, s, pt(4, 0), pt(0, 0), 1, api.Have},
	}
	for _, r := range rows {
		if e := Wall(r.m, r.s, r.a, r.b, r.kind); e != r.want {
			t.Errorf("P10.1 Wall, %s: %d, want %d", r.what, e, r.want)
		}
		if !slices.Equal(m.Tris(), tris) || !slices.Equal(s.All(), row) {
			t.Fatalf("P10.1 Wall, %s, changes it: %v, %v", r.what, m.Tris(), s.All())
		}
	}
	for _, p := range plain.Strangers() {
		for _, q := range []api.Point{pt(2, 2), p, pt(1, 1)} {
			if e, f := Wall(m, s, p, q, 1), Wall(m, s, q, p, 2); e != api.Malformed || f != api.Malformed {
				t.Errorf("P10.1 Wall between %v and %v: %d, %d", p, q, e, f)
			}
		}
	}
}

// TestFirst is that of two parts that clash the first one tells, from either end on, and
// that nothing changes by it, though parts ahead of it could be.
func TestFirst(t *testing.T) {
	ps := []api.Point{pt(0, 0), pt(0, 6), pt(12, 0), pt(12, 6), pt(0, 3), pt(2, 3), pt(4, 3), pt(6, 3), pt(8, 3), pt(12, 3), pt(5, 1), pt(5, 5), pt(10, 2), pt(11, 5)}
	slices.SortFunc(ps, plain.Order)
	row := []api.Wall{wl(5, 1, 5, 5, 2), wl(6, 3, 8, 3, 1)}
	d := plain.Dice(12)
	l := d.Stir(only(t, ps, row), row, 60)
	rows := []struct {
		what string
		a, b api.Point
		want api.Errno
	}{
		{"free, free, Cross, Have, free", pt(0, 3), pt(12, 3), api.Cross},
		{"free, Have, Cross, free, free", pt(12, 3), pt(0, 3), api.Have},
		{"Cross, free, free", pt(6, 3), pt(0, 3), api.Cross},
		{"free, free, Cross", pt(0, 3), pt(6, 3), api.Cross},
		{"Cross, Have", pt(4, 3), pt(8, 3), api.Cross},
		{"Have, Cross", pt(8, 3), pt(4, 3), api.Have},
		{"Have, free", pt(6, 3), pt(12, 3), api.Have},
		{"free, Have", pt(12, 3), pt(6, 3), api.Have},
		{"free, free", pt(4, 3), pt(0, 3), api.OK},
		{"free", pt(8, 3), pt(12, 3), api.OK},
	}
	for _, r := range rows {
		for _, kind := range []int{api.Inner, api.Border} {
			if e := hold(t, l, row, r.a, r.b, kind); e != r.want {
				t.Errorf("P10.1 Wall, %s: %d, want %d", r.what, e, r.want)
			}
		}
	}
}

// TestKept is that answers are new memory, and that a wall changes the mesh and the Set
// that it came to, and no others of the same triangles and walls.
func TestKept(t *testing.T) {
	m, n, s, u := made(t, middle()), made(t, middle()), fixed(t, nil), fixed(t, nil)
	want := []api.Point{pt(4, 4), pt(2, 2), pt(0, 0)}
	one, _ := Parts(m, pt(4, 4), pt(0, 0))
	two, _ := Parts(m, pt(4, 4), pt(0, 0))
	clear(one[:cap(one)])
	if again, _ := Parts(m, pt(4, 4), pt(0, 0)); !slices.Equal(two, want) || !slices.Equal(again, want) {
		t.Errorf("P10.2 Parts shares memory: %v, %v, want %v", two, again, want)
	}
	tris, row := m.Tris(), s.All()
	wide := list{tr(0, 0, 4, 0, 4, 4), tr(0, 0, 4, 4, 0, 4)}
	m.Replace(m.Tris(), wide)
	if e := Wall(m, s, pt(0, 4), pt(4, 0), 1); e != api.OK || s.Len() != 1 || m.Has(wide[0]) {
		t.Errorf("P10.1 Wall: %d, %v, %v", e, m.Tris(), s.All())
	}
	if !slices.Equal(tris, n.Tris()) || len(row) != 0 || u.Len() != 0 || !slices.Equal(n.Tris(), made(t, middle()).Tris()) || !slices.Equal(two, want) {
		t.Errorf("P10.2 others changed: %v, %v, %v", n.Tris(), u.All(), two)
	}
	var zero walls.Set
	if e := Wall(n, &zero, pt(0, 0), pt(4, 4), 2); e != api.OK || zero.Len() != 2 {
		t.Errorf("P10.1 Wall, a Set that New did not make: %d, %v", e, zero.All())
	}
}
