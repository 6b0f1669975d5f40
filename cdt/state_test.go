package cdt

import (
	"slices"
	"testing"

	"hectare/api"
	"hectare/flip"
	"hectare/mesh"
	"hectare/plain"
	"hectare/walls"
)

type list = plain.List

func pt(x, y int) api.Point { return plain.Pt(x, y) }

func tr(a, b, c, d, e, f int) api.Tri { return plain.Tr(a, b, c, d, e, f) }

func wl(a, b, c, d, kind int) api.Wall { return plain.Wl(a, b, c, d, kind) }

// state is what a CDT is to be: its points and walls, both rising. All is told of it anew,
// in plain ways, each time from the beginning.
type state struct {
	w, h int
	ps   []api.Point
	row  []api.Wall
}

// square is the state of New.
func square(w, h int) state {
	return state{w, h, []api.Point{pt(0, 0), pt(0, h), pt(w, 0), pt(w, h)},
		[]api.Wall{wl(0, 0, 0, h, 2), wl(0, 0, w, 0, 2), wl(0, h, w, h, 2), wl(w, 0, w, h, 2)}}
}

// with is the state with these points and walls, in whatever order they are told.
func (x state) with(ps []api.Point, row []api.Wall) state {
	x.ps, x.row = slices.Clone(ps), slices.Clone(row)
	slices.SortFunc(x.ps, plain.Order)
	slices.SortFunc(x.row, plain.Rising)
	return x
}

// end tells whether a point is a corner of the square.
func (x state) end(p api.Point) bool {
	return slices.Contains([]api.Point{pt(0, 0), pt(0, x.h), pt(x.w, 0), pt(x.w, x.h)}, p)
}

// in tells whether a point is in the square, or on its edges.
func (x state) in(p api.Point) bool {
	return 0 <= p.X && p.X <= x.w && 0 <= p.Y && p.Y <= x.h
}

func valid(p api.Point) bool {
	return 0 <= p.X && p.X <= plain.Far && 0 <= p.Y && p.Y <= plain.Far
}

// kind is that of the wall between two points; 0 of none.
func (x state) kind(a, b api.Point) int {
	for _, v := range x.row {
		if plain.Between(v.A, v.B) == plain.Between(a, b) {
			return v.Kind
		}
	}
	return 0
}

// at is the walls that end at a point.
func (x state) at(p api.Point) []api.Wall {
	return slices.DeleteFunc(slices.Clone(x.row), func(v api.Wall) bool { return v.A != p && v.B != p })
}

func (x state) addPoint(p api.Point) (state, api.Errno) {
	if !x.in(p) {
		return x, api.Denied
	}
	if slices.Contains(x.ps, p) {
		return x, api.Have
	}
	var row []api.Wall
	for _, v := range x.row {
		if plain.Within(p, v.A, v.B) {
			row = append(row, api.Wall{A: v.A, B: p, Kind: v.Kind}, api.Wall{A: p, B: v.B, Kind: v.Kind})
		} else {
			row = append(row, v)
		}
	}
	return x.with(append(slices.Clone(x.ps), p), row), api.OK
}

func (x state) dropPoint(p api.Point) (state, api.Errno) {
	at := x.at(p)
	switch {
	case x.end(p):
		return x, api.Pinned
	case slices.ContainsFunc(at, func(v api.Wall) bool { return v.Kind == api.Border }):
		return x, api.Frozen
	case !slices.Contains(x.ps, p):
		return x, api.None
	case len(at) == 0:
		return x.with(plain.Without(x.ps, p), x.row), api.OK
	}
	row := slices.DeleteFunc(slices.Clone(x.row), func(v api.Wall) bool { return v.A == p || v.B == p })
	var ends []api.Point
	for _, v := range at {
		ends = append(ends, plain.Without([]api.Point{v.A, v.B}, p)...)
	}
	if len(ends) != 2 || !plain.Within(p, ends[0], ends[1]) {
		return x, api.Pinned
	}
	e := plain.Between(ends[0], ends[1])
	return x.with(plain.Without(x.ps, p), append(row, api.Wall{A: e.A, B: e.B, Kind: api.Inner})), api.OK
}

func (x state) addWall(a, b api.Point, kind int) (state, api.Errno) {
	if kind != api.Inner && kind != api.Border || !valid(a) || !valid(b) || a == b {
		return x, api.Malformed
	}
	stops := plain.Stops(x.ps, a, b)
	if stops == nil {
		return x, api.None
	}
	row := slices.Clone(x.row)
	for i, p := range stops[1:] {
		if e := plain.Clash(x.row, stops[i], p); e != api.OK {
			return x, e
		}
		e := plain.Between(stops[i], p)
		row = append(row, api.Wall{A: e.A, B: e.B, Kind: kind})
	}
	return x.with(x.ps, row), api.OK
}

func (x state) dropWall(a, b api.Point) (state, api.Errno) {
	switch kind := x.kind(a, b); kind {
	case 0:
		return x, api.None
	case api.Border:
		return x, api.Frozen
	}
	row := slices.DeleteFunc(slices.Clone(x.row), func(v api.Wall) bool { return plain.Between(v.A, v.B) == plain.Between(a, b) })
	return x.with(x.ps, row), api.OK
}

// built is the state of Build, one thing after the other.
func built(w, h int, ps []api.Point, row []api.Wall) (state, api.Errno) {
	if w < 1 || w > plain.Far || h < 1 || h > plain.Far {
		return state{}, api.Malformed
	}
	x, e := square(w, h), api.OK
	for _, p := range ps {
		if x.end(p) {
			continue
		}
		if x, e = x.addPoint(p); e != api.OK {
			return state{}, e
		}
	}
	for _, v := range row {
		if k := x.kind(v.A, v.B); k != 0 && k == v.Kind {
			continue
		}
		if valid(v.A) && valid(v.B) && v.A != v.B && len(plain.Stops(x.ps, v.A, v.B)) != 2 {
			return state{}, api.None
		}
		if x, e = x.addWall(v.A, v.B, v.Kind); e != api.OK {
			return state{}, e
		}
	}
	return x, api.OK
}

// only is the one mesh of some points and walls: that of whichever way to cut it.
func only(t *testing.T, x state) list {
	t.Helper()
	m, e := mesh.New(plain.Cut(x.ps, x.row))
	if e != api.OK {
		t.Fatalf("mesh.New of %v: %d", x, e)
	}
	s, e := walls.New(x.row)
	if e != api.OK {
		t.Fatalf("walls.New of %v: %d", x, e)
	}
	if e := flip.Repair(m, s); e != api.OK || !flip.Good(m, s) {
		t.Fatalf("flip.Repair of %v: %d", x, e)
	}
	return m.Tris()
}

// hold holds a CDT against a state.
func hold(t *testing.T, what string, c *CDT, x state) {
	t.Helper()
	if !slices.Equal(c.Walls().All(), x.row) {
		t.Fatalf("%s: walls %v, want %v", what, c.Walls().All(), x.row)
	}
	if want := only(t, x); !slices.Equal(c.Mesh().Tris(), want) {
		t.Fatalf("%s of %v: %v, want %v", what, x, c.Mesh().Tris(), want)
	}
}

// same tells whether two are the same.
func same(c, d *CDT) bool {
	return slices.Equal(c.Mesh().Tris(), d.Mesh().Tris()) && slices.Equal(c.Walls().All(), d.Walls().All())
}

// of is Build of what may be.
func of(t *testing.T, x state) *CDT {
	t.Helper()
	c, e := Build(x.w, x.h, x.ps, x.row)
	if e != api.OK {
		t.Fatalf("P12.2 Build of %v: %d", x, e)
	}
	return c
}

// step is the state after one of the calls, with whatever of some points, and its error,
// with what the CDT told.
func step(d *plain.Dice, c *CDT, x state, near []api.Point) (y state, want, got api.Errno) {
	p, q, kind := near[d.Below(len(near))], x.ps[d.Below(len(x.ps))], 1+d.Below(2)
	if d.Below(3) > 0 {
		p = x.ps[d.Below(len(x.ps))]
	}
	if d.Below(12) == 0 {
		q, kind = near[d.Below(len(near))], d.Below(4)
	}
	var v api.Wall
	if len(x.row) > 4 {
		v = x.row[d.Below(len(x.row))]
	}
	switch d.Below(8) {
	case 0, 1:
		p = near[d.Below(len(near))]
		y, want = x.addPoint(p)
		return y, want, c.AddPoint(p)
	case 2:
		y, want = x.dropPoint(p)
		return y, want, c.DropPoint(p)
	case 3:
		y, want = x.dropWall(p, q)
		return y, want, c.DropWall(p, q)
	case 4:
		y, want = x.dropWall(v.B, v.A)
		return y, want, c.DropWall(v.B, v.A)
	}
	y, want = x.addWall(p, q, kind)
	return y, want, c.AddWall(p, q, kind)
}

// around is all points of a square, and some that are without it, or not Valid.
func around(w, h int) []api.Point {
	l := append(plain.Strangers(), pt(w+1, 0), pt(0, h+1), pt(w+1, h+1), pt(plain.Far, 0), pt(0, plain.Far))
	for x := range w + 1 {
		for y := range h + 1 {
			l = append(l, pt(x, y))
		}
	}
	return l
}
