package cdt

import (
	"slices"
	"testing"

	"hectare/api"
	"hectare/flip"
	"hectare/plain"
)

// TestBuildRows is of four by four, with a point at its middle, or without one.
func TestBuildRows(t *testing.T) {
	corners := []api.Point{pt(0, 0), pt(0, 4), pt(4, 0), pt(4, 4)}
	two := append(slices.Clone(corners), pt(2, 2))
	frame := square(4, 4).row
	type ps = []api.Point
	type ws = []api.Wall
	rows := []struct {
		what string
		p    ps
		l    ws
		want api.Errno
	}{
		{"nothing", nil, nil, api.OK},
		{"nothing, as lists", ps{}, ws{}, api.OK},
		{"what is there", corners, frame, api.OK},
		{"corners of the square, twice", append(corners, corners...), nil, api.OK},
		{"the frame, twice", nil, append(frame, frame...), api.OK},
		{"the frame, from its other ends", nil, ws{wl(4, 4, 4, 0, 2), wl(4, 0, 0, 0, 2)}, api.OK},
		{"a point twice", ps{pt(2, 2), pt(2, 2)}, nil, api.Have},
		{"a point beside the square", ps{pt(5, 2)}, nil, api.Denied},
		{"no point of the grid, and none of the square", ps{pt(-1, 2)}, nil, api.Denied},
		{"one twice, then one beside", ps{pt(3, 3), pt(3, 3), pt(2, 5)}, nil, api.Have},
		{"one beside, then one twice", ps{pt(2, 5), pt(3, 3), pt(3, 3)}, nil, api.Denied},
		{"one to the right, then one twice", ps{pt(5, 2), pt(3, 3), pt(3, 3)}, nil, api.Denied},
		{"one above, then one twice", ps{pt(0, 5), pt(3, 3), pt(3, 3)}, nil, api.Denied},
		{"one to the left, then one twice", ps{pt(-1, 0), pt(3, 3), pt(3, 3)}, nil, api.Denied},
		{"one below, then one twice", ps{pt(0, -1), pt(3, 3), pt(3, 3)}, nil, api.Denied},
		{"one beside, twice", ps{pt(2, 5), pt(2, 5)}, nil, api.Denied},
		{"points ahead of walls", ps{pt(2, 5)}, ws{{}}, api.Denied},
		{"on the frame, whose wall is two", ps{pt(0, 2)}, ws{wl(0, 0, 0, 2, 2), wl(0, 2, 0, 4, 2)}, api.OK},
		{"on the frame, whose wall was one", ps{pt(0, 2)}, ws{wl(0, 0, 0, 4, 2)}, api.None},
		{"a part of the frame, of another kind", ps{pt(0, 2)}, ws{wl(0, 0, 0, 2, 1)}, api.Have},
		{"the frame, of another kind", nil, ws{wl(0, 0, 0, 4, 1)}, api.Have},
		{"the frame, of no kind", nil, ws{wl(0, 0, 0, 4, 0)}, api.Malformed},
		{"a wall", two, ws{wl(0, 0, 2, 2, 1)}, api.OK},
		{"a wall, from its other end", two, ws{wl(2, 2, 0, 0, 1)}, api.OK},
		{"a wall, twice", two, ws{wl(0, 0, 2, 2, 1), wl(0, 0, 2, 2, 1)}, api.OK},
		{"a wall, from both ends", two, ws{wl(0, 0, 2, 2, 1), wl(2, 2, 0, 0, 1)}, api.OK},
		{"a wall of both kinds", two, ws{wl(0, 0, 2, 2, 1), wl(0, 0, 2, 2, 2)}, api.Have},
		{"a wall of a kind, then of none", two, ws{wl(0, 0, 2, 2, 1), wl(0, 0, 2, 2, 0)}, api.Malformed},
		{"no wall between, of no kind", two, ws{wl(0, 0, 2, 2, 0)}, api.Malformed},
		{"no wall between, of a third kind", two, ws{wl(0, 0, 2, 2, 3)}, api.Malformed},
		{"a wall over a point", two, ws{wl(0, 0, 4, 4, 1)}, api.None},
		{"a wall over a point, of no kind", two, ws{wl(0, 0, 4, 4, 0)}, api.None},
		{"a wall over a point, beside one of its parts", two, ws{wl(0, 0, 2, 2, 1), wl(0, 0, 4, 4, 1)}, api.None},
		{"to no corner", two, ws{wl(0, 0, 3, 3, 1)}, api.None},
		{"to no corner, of no kind", two, ws{wl(0, 0, 3, 3, 0)}, api.None},
		{"from no corner, of no kind", two, ws{wl(1, 1, 4, 4, 9)}, api.None},
		{"to a point beside the square", two, ws{wl(0, 0, 5, 5, 1)}, api.None},
		{"to no point of the grid", two, ws{wl(0, 0, -1, 0, 1)}, api.Malformed},
		{"from no corner to no point of the grid", two, ws{wl(1, 1, -1, 0, 0)}, api.Malformed},
		{"from a corner to itself", two, ws{wl(2, 2, 2, 2, 1)}, api.Malformed},
		{"from no corner to itself", two, ws{wl(1, 1, 1, 1, 0)}, api.Malformed},
		{"two that cross", nil, ws{wl(0, 0, 4, 4, 1), wl(0, 4, 4, 0, 1)}, api.Cross},
		{"two that cross, the second of no kind", nil, ws{wl(0, 0, 4, 4, 1), wl(0, 4, 4, 0, 0)}, api.Malformed},
		{"two that cross, then one of no kind", nil, ws{wl(0, 0, 4, 4, 1), wl(0, 4, 4, 0, 1), wl(0, 0, 4, 4, 0)}, api.Cross},
		{"one of no kind, then two that cross", nil, ws{wl(0, 4, 4, 0, 0), wl(0, 0, 4, 4, 1), wl(0, 4, 4, 0, 1)}, api.Malformed},
		{"four that meet", two, ws{wl(0, 0, 2, 2, 1), wl(2, 2, 4, 4, 1), wl(0, 4, 2, 2, 2), wl(2, 2, 4, 0, 2)}, api.OK},
	}
	for _, r := range rows {
		c, e := Build(4, 4, r.p, r.l)
		if e != r.want || (c == nil) != (e != api.OK) {
			t.Errorf("P12.2 Build, %s: %v, %d, want %d", r.what, c, e, r.want)
		}
		x, e := built(4, 4, r.p, r.l)
		if e != r.want {
			t.Errorf("P12.2 %s: %d, want %d", r.what, e, r.want)
		} else if c != nil {
			hold(t, "P12.2 Build, "+r.what, c, x)
		}
	}
}

// TestBuild is of lists of whatever points and walls, most of them ones that may be.
func TestBuild(t *testing.T) {
	d := plain.Dice(1212121)
	count := map[api.Errno]int{}
	for i := range 1500 {
		w, h := 1+d.Below(6), 1+d.Below(6)
		near := around(w, h)
		ps := plain.Mix(&d, d.Points(w, h, d.Below(9)))
		for range i % 4 / 3 * d.Below(3) {
			ps = append(ps, near[d.Below(len(near))])
		}
		ps = plain.Mix(&d, ps)
		var row []api.Wall
		x, e := built(w, h, ps, nil)
		for range d.Below(10) {
			p, q, kind := ps[d.Below(len(ps))], ps[d.Below(len(ps))], 1+d.Below(2)
			if i%3 == 0 && d.Below(8) == 0 {
				q, kind = near[d.Below(len(near))], d.Below(5)
			}
			y, f := x.addWall(p, q, kind)
			if i%2 == 0 && e == api.OK && (f != api.OK || len(plain.Stops(x.ps, p, q)) > 2) {
				continue
			}
			x, row = y, append(row, api.Wall{A: p, B: q, Kind: kind})
		}
		if i%5 == 0 {
			row = plain.Mix(&d, append(row, row...))
		}
		x, want := built(w, h, ps, row)
		c, e := Build(w, h, ps, row)
		count[want]++
		if e != want || (c == nil) != (e != api.OK) {
			t.Fatalf("P12.2 Build(%d, %d, %v, %v): %d, want %d", w, h, ps, row, e, want)
		}
		if c != nil {
			hold(t, "P12.2 Build", c, x)
		}
	}
	for _, e := range []api.Errno{api.OK, api.Denied, api.Malformed, api.Have, api.Cross, api.None} {
		if count[e] < 40 {
			t.Errorf("too few of some: %v", count)
		}
	}
}

// TestBuildKept is that what is handed in is neither changed, nor its spare room, nor kept.
func TestBuildKept(t *testing.T) {
	ps := []api.Point{pt(5, 5), pt(0, 0), pt(2, 1), pt(8, 3), pt(9, 9), pt(1, 1)}
	row := []api.Wall{wl(5, 5, 2, 1, 1), wl(0, 0, 0, 8, 2), wl(0, 8, 5, 5, 2), wl(0, 0, 2, 1, 1), wl(9, 9, 1, 1, 1)}
	l, r := slices.Clone(ps), slices.Clone(row)
	c, e := Build(8, 8, ps[:4], row[:3])
	if e != api.OK || !slices.Equal(ps, l) || !slices.Equal(row, r) {
		t.Fatalf("P12.2 Build: %d, and what was handed in is %v, %v", e, ps, row)
	}
	b := c.Copy()
	clear(ps)
	clear(row)
	if e := c.AddPoint(pt(3, 3)); e != api.OK || !slices.Equal(ps, make([]api.Point, 6)) || !slices.Equal(row, make([]api.Wall, 5)) {
		t.Errorf("P12.2 what was handed in is kept: %d, %v, %v", e, ps, row)
	}
	if e := c.DropPoint(pt(3, 3)); e != api.OK || !same(b, c) {
		t.Errorf("P12.2 Build: %d, %v, %v", e, c.Mesh().Tris(), c.Walls().All())
	}
}

// edges is all edges of a CDT as walls: those that are walls of their kind, all others
// Inner.
func edges(c *CDT) []api.Wall {
	var row []api.Wall
	for e := range list(c.Mesh().Tris()).Edges() {
		row = append(row, api.Wall{A: e.A, B: e.B, Kind: max(api.Inner, c.Walls().Kind(e.A, e.B))})
	}
	slices.SortFunc(row, plain.Rising)
	return row
}

// TestLimits is of as many points and walls as a map may have.
func TestLimits(t *testing.T) {
	d := plain.Dice(12121212)
	x := square(1<<20, 1<<20)
	x.ps = d.Points(x.w, x.h, api.MaxPoints-4)
	if walled(t, &d, x) < api.MaxWalls-200 {
		t.Errorf("too few walls")
	}
}

// TestLie is of many points, however they lie.
func TestLie(t *testing.T) {
	const n, side = 4000, 1 << 18
	d := plain.Dice(121212121)
	for what, lie := range map[string]func(i int) api.Point{
		"on the frame":  func(i int) api.Point { return [2]api.Point{pt(0, 1+i), pt(1+i, 0)}[i%2] },
		"a grid":        func(i int) api.Point { return pt(1+i/63*100, 1+i%63*100) },
		"on one line":   func(i int) api.Point { return pt(1+i, 1+i) },
		"in two rows":   func(i int) api.Point { return pt(1+i/2*9, side/2+i%2*9) },
		"in two lines":  func(i int) api.Point { return [2]api.Point{pt(3, 1+i), pt(4+i, n/2)}[i%2] },
		"on a parabola": func(i int) api.Point { return pt(1+i*16, i*i>>9) },
	} {
		x := square(side, side)
		for i := range n {
			x.ps = append(x.ps, lie(i))
		}
		slices.SortFunc(x.ps, plain.Order)
		x.ps = slices.Compact(x.ps)
		if walled(t, &d, x) < 2*n {
			t.Errorf("too few walls: %s", what)
		}
	}
}

// walled builds of points, and then of these and all edges as walls: a mesh that would not
// be the same could not have these. It tells how many there are.
func walled(t *testing.T, d *plain.Dice, x state) int {
	t.Helper()
	c := of(t, state{x.w, x.h, x.ps, nil})
	if !slices.Equal(c.Mesh().Points(), x.ps) || !flip.Good(c.Mesh(), c.Walls()) || list(c.Mesh().Tris()).Area() != 2*x.w*x.h {
		t.Fatalf("P12.2 Build of many points, from %v on", x.ps[:9])
	}
	x.row = edges(c)
	b := of(t, state{x.w, x.h, plain.Mix(d, x.ps), x.row})
	if !slices.Equal(b.Mesh().Tris(), c.Mesh().Tris()) || !slices.Equal(b.Walls().All(), x.row) {
		t.Errorf("P12.2 Build of many walls, from %v on", x.ps[:9])
	}
	return len(x.row)
}
