package flip

import (
	"slices"
	"testing"

	"hectare/api"
	"hectare/mesh"
	"hectare/walls"
)

func TestRows(t *testing.T) {
	type ws = []api.Wall
	// A kite is not on one circle, whichever way it is cut; a square is on one.
	kite := list{tr(0, 3, 4, 0, 4, 6), tr(4, 0, 8, 3, 4, 6)}
	long := list{tr(0, 3, 4, 0, 8, 3), tr(0, 3, 8, 3, 4, 6)}
	square := list{tr(0, 0, 4, 0, 4, 4), tr(0, 0, 4, 4, 0, 4)}
	wrong := list{tr(0, 0, 4, 0, 0, 4), tr(0, 4, 4, 0, 4, 4)}
	lid := list{tr(0, 0, 5, 0, 5, 1), tr(0, 0, 5, 1, 0, 1), tr(0, 1, 5, 1, 5, 2), tr(0, 1, 5, 2, 0, 2)}
	rows := []struct {
		what string
		l    list
		s    ws
		bad  ws
		then list
	}{
		{"no triangles", nil, nil, nil, nil},
		{"no triangles, but a wall", nil, ws{in(0, 0, 4, 4)}, nil, nil},
		{"one triangle", list{square[0]}, nil, nil, list{square[0]}},
		{"a square, from the least on", square, nil, nil, square},
		{"a square, the other way", wrong, nil, ws{in(0, 4, 4, 0)}, square},
		{"the other way, by an inner wall", wrong, ws{in(0, 4, 4, 0)}, nil, wrong},
		{"the other way, by a border", wrong, ws{wl(0, 4, 4, 0, 2)}, nil, wrong},
		{"the other way, and a wall elsewhere", wrong, ws{in(0, 0, 0, 4)}, ws{in(0, 4, 4, 0)}, square},
		{"the other way, and a wall from its end", wrong, ws{in(0, 4, 3, 8)}, ws{in(0, 4, 4, 0)}, square},
		{"a kite, by its short way", kite, nil, nil, kite},
		{"a kite, by its long way", long, nil, ws{in(0, 3, 8, 3)}, kite},
		{"a kite, by its long way, which is a wall", long, ws{in(0, 3, 8, 3)}, nil, long},
		{"two with a corner in common", list{tr(0, 0, 4, 0, 4, 4), tr(4, 4, 8, 4, 8, 8)}, nil, nil, list{tr(0, 0, 4, 0, 4, 4), tr(4, 4, 8, 4, 8, 8)}},
		{"two edges on one line", list{tr(0, 0, 4, 0, 2, 2), tr(0, 0, 2, 2, 0, 4)}, nil, nil, list{tr(0, 0, 4, 0, 2, 2), tr(0, 0, 2, 2, 0, 4)}},
		{"not convex", list{tr(0, 0, 4, 0, 1, 1), tr(0, 0, 1, 1, 0, 4)}, nil, nil, list{tr(0, 0, 4, 0, 1, 1), tr(0, 0, 1, 1, 0, 4)}},
		{"two squares, one of them wrong", append(list{tr(4, 0, 8, 0, 4, 4), tr(4, 4, 8, 0, 8, 4)}, square...), nil, ws{in(4, 4, 8, 0)},
			append(list{tr(4, 0, 8, 0, 8, 4), tr(4, 0, 8, 4, 4, 4)}, square...)},
		{"a bad edge between good ones", list{tr(0, 0, 3, 0, 0, 1), tr(0, 1, 3, 0, 0, 2), tr(0, 2, 3, 0, 3, 2)}, nil, ws{in(0, 2, 3, 0)},
			list{tr(0, 0, 3, 0, 0, 1), tr(0, 1, 3, 0, 3, 2), tr(0, 1, 3, 2, 0, 2)}},
		{"two low ones, a wall between", lid, ws{in(0, 1, 5, 1)}, nil, lid},
		{"the grid's square", list{tr(0, 0, far, 0, 0, far), tr(0, far, far, 0, far, far)}, nil, ws{in(0, far, far, 0)},
			list{tr(0, 0, far, 0, far, far), tr(0, 0, far, far, 0, far)}},
		{"just within, far", list{tr(0, 0, far, 0, 1, far), tr(1, far, far, 0, far, far-1)}, nil, ws{in(1, far, far, 0)},
			list{tr(0, 0, far, 0, far, far-1), tr(0, 0, far, far-1, 1, far)}},
		{"just without, far", list{tr(0, 0, far, 1, 0, far), tr(0, far, far, 1, far, far)}, nil, nil,
			list{tr(0, 0, far, 1, 0, far), tr(0, far, far, 1, far, far)}},
	}
	for _, r := range rows {
		m, s := made(t, r.l), fixed(t, r.s)
		if plain := r.l.bad(r.s); !slices.Equal(plain, r.bad) {
			t.Fatalf("the row of %s is wrong: %v", r.what, plain)
		}
		if got := Bad(m, s); !slices.Equal(got, r.bad) {
			t.Errorf("P8.1 Bad, %s: %v, want %v", r.what, got, r.bad)
		}
		if got := Good(m, s); got != (len(r.bad) == 0) {
			t.Errorf("P8.1 Good, %s: %v", r.what, got)
		}
		if got := m.Tris(); !slices.Equal(got, made(t, r.l).Tris()) {
			t.Errorf("P8.1 %s: Bad or Good changed the mesh: %v", r.what, got)
		}
		if e := Repair(m, s); e != api.OK {
			t.Errorf("P8.2 Repair, %s: %d", r.what, e)
		}
		if got := m.Tris(); !slices.Equal(got, made(t, r.then).Tris()) {
			t.Errorf("P8.2 Repair, %s: %v, want %v", r.what, got, r.then)
		}
		if !Good(m, s) || !slices.Equal(s.All(), fixed(t, r.s).All()) {
			t.Errorf("P8.2 after Repair, %s: Good %v, walls %v", r.what, Good(m, s), s.All())
		}
	}
}

// TestTies is of all four corners of rectangles, turned and not, as the least one
// tells: the good way to cut them begins there.
func TestTies(t *testing.T) {
	for _, four := range [][4]api.Point{
		{pt(0, 0), pt(1, 0), pt(1, 1), pt(0, 1)},
		{pt(0, 0), pt(9, 0), pt(9, 1), pt(0, 1)},
		{pt(0, 5), pt(5, 0), pt(10, 5), pt(5, 10)},
		{pt(0, 2), pt(4, 0), pt(5, 2), pt(1, 4)},
		{pt(0, 0), pt(far, 0), pt(far, far), pt(0, far)},
		{pt(0, 1), pt(far-1, 0), pt(far, far-1), pt(1, far)},
		{pt(7, 1), pt(8, 1), pt(8, far), pt(7, far)},
		{pt(0, 25), pt(25, 0), pt(45, 10), pt(10, 45)}, // on a circle about (25, 25), but no rectangle
	} {
		first := slices.IndexFunc(four[:], func(p api.Point) bool {
			return !slices.ContainsFunc(four[:], func(q api.Point) bool { return before(q, p) })
		})
		a, b, c, d := four[first], four[(first+1)%4], four[(first+2)%4], four[(first+3)%4]
		good := cutAlong(a, b, c, d)
		wrong := cutAlong(b, c, d, a)
		m, s := made(t, good), fixed(t, nil)
		if got := Bad(m, s); len(got) > 0 || !Good(m, s) {
			t.Errorf("P8.1 Bad of %v, cut at the least: %v", four, got)
		}
		n := made(t, wrong)
		ends := api.Wall{A: b, B: d, Kind: api.Inner}
		if before(d, b) {
			ends.A, ends.B = d, b
		}
		if got := Bad(n, s); !slices.Equal(got, []api.Wall{ends}) {
			t.Errorf("P8.1 Bad of %v, cut at the others: %v", four, got)
		}
		for _, x := range []struct {
			what string
			e    api.Errno
		}{{"good", Repair(m, s)}, {"wrong", Repair(n, s)}} {
			if x.e != api.OK {
				t.Errorf("P8.2 Repair of %v, %s: %d", four, x.what, x.e)
			}
		}
		if !slices.Equal(m.Tris(), n.Tris()) || !slices.Equal(m.Tris(), made(t, good).Tris()) {
			t.Errorf("P8.3 %v: %v and %v, want %v", four, m.Tris(), n.Tris(), good)
		}
	}
}

// cutAlong is four points that go round, cut from the first to the third.
func cutAlong(a, b, c, d api.Point) list {
	t, _ := told(a, b, c)
	u, _ := told(a, c, d)
	return list{t, u}
}

// TestNil is of a nil mesh and a nil Set, and of those that nobody made.
func TestNil(t *testing.T) {
	wrong := list{tr(0, 0, 4, 0, 0, 4), tr(0, 4, 4, 0, 4, 4)}
	m, s := made(t, wrong), fixed(t, []api.Wall{in(0, 4, 4, 0)})
	if got := Bad(nil, s); len(got) > 0 || !Good(nil, s) {
		t.Errorf("P8.1 Bad of a nil mesh: %v, Good %v", got, Good(nil, s))
	}
	if got := Bad(nil, nil); len(got) > 0 || !Good(nil, nil) {
		t.Errorf("P8.1 Bad of nil and nil: %v, Good %v", got, Good(nil, nil))
	}
	if got := Bad(m, nil); !slices.Equal(got, []api.Wall{in(0, 4, 4, 0)}) || Good(m, nil) {
		t.Errorf("P8.1 Bad, a nil Set: %v, Good %v", got, Good(m, nil))
	}
	for what, e := range map[string]api.Errno{"a nil mesh": Repair(nil, s), "a nil Set": Repair(m, nil), "both nil": Repair(nil, nil)} {
		if e != api.None {
			t.Errorf("P8.2 Repair, %s: %d", what, e)
		}
	}
	if e, f := Mend(nil, s, wrong), Mend(m, nil, wrong); e != api.None || f != api.None {
		t.Errorf("P8.2 Mend of a nil mesh, or Set: %d, %d", e, f)
	}
	if !slices.Equal(m.Tris(), made(t, wrong).Tris()) || s.Len() != 1 {
		t.Errorf("P8.2 Repair told None, and changed %v, %v", m.Tris(), s.All())
	}
	if e := Repair(m, s); e != api.OK || m.Has(tr(0, 0, 4, 0, 4, 4)) {
		t.Errorf("P8.2 Repair, with a wall: %d, %v", e, m.Tris())
	}
}

// TestZero is of a mesh and a Set that New did not make: they have nothing.
func TestZero(t *testing.T) {
	var m mesh.Mesh
	var s walls.Set
	if got := Bad(&m, &s); len(got) > 0 || !Good(&m, &s) {
		t.Errorf("P8.1 Bad of nothing: %v", got)
	}
	if e := Repair(&m, &s); e != api.OK || m.Len() != 0 || s.Len() != 0 {
		t.Errorf("P8.2 Repair of nothing: %d, %v, %v", e, m.Tris(), s.All())
	}
	n := made(t, list{tr(0, 0, 4, 0, 0, 4), tr(0, 4, 4, 0, 4, 4)})
	if e := Repair(n, &s); e != api.OK || !n.Has(tr(0, 0, 4, 0, 4, 4)) {
		t.Errorf("P8.2 Repair, no walls: %d, %v", e, n.Tris())
	}
}
