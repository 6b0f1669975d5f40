package cdt

import (
	"math"
	"slices"
	"testing"

	"hectare/api"
	"hectare/flip"
	"hectare/mesh"
	"hectare/plain"
	"hectare/walls"
)

func TestNew(t *testing.T) {
	for _, n := range []int{0, -1, math.MinInt, plain.Far + 1, plain.Far + 2, math.MaxInt, 1 << 32, 1<<32 + 1} {
		for _, size := range [][2]int{{n, 1}, {1, n}, {n, n}, {plain.Far, n}, {n, plain.Far}} {
			if c, e := New(size[0], size[1]); c != nil || e != api.Malformed {
				t.Errorf("P12.1 New(%v): %v, %d", size, c, e)
			}
			if c, e := Build(size[0], size[1], []api.Point{pt(1, 1), pt(1, 1)}, []api.Wall{{}}); c != nil || e != api.Malformed {
				t.Errorf("P12.2 Build(%v): %v, %d", size, c, e)
			}
		}
	}
	for _, w := range []int{1, 2, 3, 1000, plain.Far - 1, plain.Far} {
		for _, h := range []int{1, 2, 3, 999, plain.Far - 1, plain.Far} {
			c, e := New(w, h)
			if e != api.OK {
				t.Fatalf("P12.1 New(%d, %d): %d", w, h, e)
			}
			frame := []api.Wall{wl(0, 0, 0, h, 2), wl(0, 0, w, 0, 2), wl(0, h, w, h, 2), wl(w, 0, w, h, 2)}
			if two := []api.Tri{tr(0, 0, w, 0, w, h), tr(0, 0, w, h, 0, h)}; !slices.Equal(c.Mesh().Tris(), two) {
				t.Errorf("P12.1 New(%d, %d): %v", w, h, c.Mesh().Tris())
			}
			if !slices.Equal(c.Walls().All(), frame) || !flip.Good(c.Mesh(), c.Walls()) {
				t.Errorf("P12.1 New(%d, %d): %v", w, h, c.Walls().All())
			}
			for _, p := range []api.Point{pt(0, 0), pt(w, 0), pt(0, h), pt(w, h)} {
				if e, f := c.AddPoint(p), c.DropPoint(p); e != api.Have || f != api.Pinned {
					t.Errorf("P12.1 New(%d, %d): AddPoint(%v) %d, DropPoint %d", w, h, p, e, f)
				}
			}
		}
	}
}

// TestRows is of one square, call by call.
func TestRows(t *testing.T) {
	c, _ := New(8, 4)
	add := func(x, y int) api.Errno { return c.AddPoint(pt(x, y)) }
	drop := func(x, y int) api.Errno { return c.DropPoint(pt(x, y)) }
	wall := func(a, b, p, q, kind int) api.Errno { return c.AddWall(pt(a, b), pt(p, q), kind) }
	gone := func(a, b, p, q int) api.Errno { return c.DropWall(pt(a, b), pt(p, q)) }
	for i, r := range []struct {
		what      string
		got, want api.Errno
	}{
		{"a point on the frame", add(4, 0), api.OK},
		{"a corner of the square", add(8, 4), api.Have},
		{"a point beside the square", add(9, 4), api.Denied},
		{"no point of the grid", add(-1, 2), api.Denied},
		{"a point on the frame can't go", drop(4, 0), api.Frozen},
		{"a corner of the square, neither, and is told ahead of its walls", drop(8, 0), api.Pinned},
		{"no point there", drop(3, 1), api.None},
		{"nor there", drop(9, 9), api.None},
		{"a point on an edge", add(4, 2), api.OK},
		{"once more", add(4, 2), api.Have},
		{"a wall over a point", wall(0, 0, 8, 4, 1), api.OK},
		{"a part of it", wall(4, 2, 0, 0, 2), api.Have},
		{"all of it, of another kind", wall(8, 4, 0, 0, 2), api.Have},
		{"a wall that crosses", wall(4, 0, 0, 4, 1), api.Cross},
		{"a kind that is none", wall(4, 0, 4, 2, 3), api.Malformed},
		{"a kind that is none is told ahead of no corners", wall(1, 1, 2, 2, 0), api.Malformed},
		{"from a point to itself", wall(4, 0, 4, 0, 1), api.Malformed},
		{"from no corner to itself", wall(3, 0, 3, 0, 1), api.Malformed},
		{"to no corner", wall(4, 0, 3, 3, 1), api.None},
		{"from no corner", wall(3, 3, 4, 0, 1), api.None},
		{"to no point of the grid", wall(4, 0, 4, -1, 1), api.Malformed},
		{"a wall to the frame", wall(4, 0, 4, 2, 2), api.OK},
		{"a point that three walls need: one of them is a Border", drop(4, 2), api.Frozen},
		{"a part of the frame", gone(0, 0, 4, 0), api.Frozen},
		{"all of the frame's side, which is two walls", gone(0, 0, 8, 0), api.None},
		{"a Border that came", gone(4, 2, 4, 0), api.Frozen},
		{"an edge that is no wall", gone(0, 4, 4, 2), api.None},
		{"a point within a wall", add(2, 1), api.OK},
		{"it can go", drop(2, 1), api.OK},
		{"and come again", add(2, 1), api.OK},
		{"the half of a wall", gone(2, 1, 0, 0), api.OK},
		{"and once more", gone(0, 0, 2, 1), api.None},
		{"where one wall ends", drop(2, 1), api.Pinned},
		{"the other half", gone(2, 1, 4, 2), api.OK},
		{"where none ends", drop(2, 1), api.OK},
	} {
		if r.got != r.want {
			t.Errorf("P12.1 %d, %s: %d, want %d", i, r.what, r.got, r.want)
		}
	}
	x := square(8, 4)
	x, _ = x.addPoint(pt(4, 0))
	x, _ = x.addPoint(pt(4, 2))
	x, _ = x.addWall(pt(4, 2), pt(4, 0), 2)
	x, _ = x.addWall(pt(4, 2), pt(8, 4), 1)
	hold(t, "P12.3 after all", c, x)
}

// TestPinned is of points that walls need, of all kinds, but for Borders.
func TestPinned(t *testing.T) {
	c, _ := New(8, 8)
	ends := []api.Point{pt(2, 2), pt(6, 6), pt(2, 6), pt(6, 4)}
	mid := pt(4, 4)
	for _, p := range append(ends, mid) {
		if e := c.AddPoint(p); e != api.OK {
			t.Fatalf("AddPoint(%v): %d", p, e)
		}
	}
	for i := range 16 {
		b := c.Copy()
		var l []api.Point
		for j, p := range ends {
			if i>>j&1 == 1 {
				b.AddWall(p, mid, api.Inner)
				l = append(l, p)
			}
		}
		want := api.Pinned
		if len(l) == 0 || len(l) == 2 && plain.Within(mid, l[0], l[1]) {
			want = api.OK
		}
		if e := b.DropPoint(mid); e != want {
			t.Errorf("P12.1 DropPoint where walls from %v end: %d, want %d", l, e, want)
		}
	}
}

func TestNil(t *testing.T) {
	var c *CDT
	if c.Mesh() != nil || c.Walls() != nil || c.Copy() != nil {
		t.Errorf("P12.2 nil: %v, %v, %v", c.Mesh(), c.Walls(), c.Copy())
	}
	for _, p := range append(plain.Strangers(), pt(0, 0), pt(1, 1)) {
		for _, q := range append(plain.Strangers(), pt(0, 0), pt(1, 0)) {
			for kind := range 4 {
				if e, f, g, h := c.AddPoint(p), c.DropPoint(p), c.AddWall(p, q, kind), c.DropWall(p, q); e != api.None || f != api.None || g != api.None || h != api.None {
					t.Errorf("P12.2 nil, of %v and %v: %d, %d, %d, %d", p, q, e, f, g, h)
				}
			}
		}
	}
}

// TestZero is that the calls of a CDT that New did not make end, and add nothing.
func TestZero(t *testing.T) {
	c := &CDT{}
	near := append(plain.Strangers(), pt(0, 0), pt(1, 1), pt(2, 0))
	for _, p := range near {
		for _, q := range near {
			if c.AddPoint(p) == api.OK || c.DropPoint(p) == api.OK || c.AddWall(p, q, 1) == api.OK || c.DropWall(p, q) == api.OK {
				t.Errorf("P12.1 a zero CDT changes")
			}
		}
	}
	if c.Copy() == nil || c.Mesh().Len() != 0 || c.Walls().Len() != 0 {
		t.Errorf("P12.1 a zero CDT: %v, %v", c.Mesh().Tris(), c.Walls().All())
	}
}

// TestOwn is that Mesh and Walls are those of the CDT, whatever comes later.
func TestOwn(t *testing.T) {
	c, _ := New(4, 4)
	m, s := c.Mesh(), c.Walls()
	c.AddPoint(pt(1, 0))
	c.AddPoint(pt(1, 2))
	c.AddWall(pt(1, 0), pt(1, 2), 1)
	if m != c.Mesh() || s != c.Walls() || m.Len() != 5 || s.Len() != 6 {
		t.Errorf("P12.2 Mesh, Walls: %v, %v", m.Tris(), s.All())
	}
}

// TestCopy is that two have nothing in common.
func TestCopy(t *testing.T) {
	c, _ := New(8, 8)
	c.AddPoint(pt(4, 4))
	c.AddPoint(pt(4, 2))
	c.AddWall(pt(4, 4), pt(4, 2), 1)
	b := c.Copy()
	if b == c || b.Mesh() == c.Mesh() || b.Walls() == c.Walls() || !same(b, c) {
		t.Fatalf("P12.2 Copy: %v, %v", b.Mesh().Tris(), b.Walls().All())
	}
	x := square(8, 8).with([]api.Point{pt(0, 0), pt(0, 8), pt(8, 0), pt(8, 8), pt(4, 4), pt(4, 2)}, append(square(8, 8).row, wl(4, 2, 4, 4, 1)))
	for _, call := range []func(c *CDT) api.Errno{
		func(c *CDT) api.Errno { return c.AddPoint(pt(1, 5)) },
		func(c *CDT) api.Errno { return c.AddWall(pt(1, 5), pt(4, 4), 2) },
		func(c *CDT) api.Errno { return c.DropWall(pt(4, 4), pt(4, 2)) },
		func(c *CDT) api.Errno { return c.DropPoint(pt(4, 2)) },
	} {
		if e := call(b); e != api.OK {
			t.Fatalf("P12.1 a Copy: %d", e)
		}
		hold(t, "P12.2 what a Copy was made of", c, x)
	}
	a := b.Copy()
	want := a.Mesh().Tris()
	if e, f := b.AddPoint(pt(7, 7)), c.AddPoint(pt(7, 6)); e != api.OK || f != api.OK || !slices.Equal(a.Mesh().Tris(), want) {
		t.Errorf("P12.2 a Copy changes with what it was made of: %d, %d", e, f)
	}
	if e := a.AddPoint(pt(8, 3)); e != api.OK || a.DropPoint(pt(8, 8)) != api.Pinned || a.AddPoint(pt(8, 9)) != api.Denied {
		t.Errorf("P12.2 a Copy: %d", e)
	}
}

// TestTorn is that the calls end if others have changed the mesh, or the walls.
func TestTorn(t *testing.T) {
	d := plain.Dice(121)
	for i := range 200 {
		w, h := 3+d.Below(4), 3+d.Below(4)
		x := square(w, h)
		for range 8 {
			x, _ = x.addPoint(d.Point(w, h))
		}
		c := of(t, x)
		l := list(c.Mesh().Tris())
		for range i % 5 {
			l = plain.Without(l, l[d.Below(len(l))])
		}
		l = d.Heap(l, w, h, i%3*30)
		row := d.Walls(nil, w, h, i%4*3)
		c.m, _ = mesh.New(l)
		c.s, _ = walls.New(row)
		if i%7 > 0 {
			for _, v := range square(w, h).row {
				c.s.Add(v)
			}
		}
		near := around(w, h)
		for range 100 {
			p, q := near[d.Below(len(near))], near[d.Below(len(near))]
			c.AddPoint(p)
			c.AddWall(q, p, 1+d.Below(2))
			c.DropPoint(q)
			c.DropWall(p, q)
		}
		// The frame has no place in such a heap; but what is answered may be asked.
		if b := c.Copy(); !same(b, c) {
			t.Errorf("P12.2 Copy of %v with %v", l, row)
		}
	}
}
