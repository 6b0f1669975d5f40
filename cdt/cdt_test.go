package cdt

import (
	"slices"
	"testing"

	"hectare/api"
	"hectare/flip"
	"hectare/plain"
)

// TestSteps is of small squares to which all comes and goes, in whatever order: after each
// call they are as if they had been made anew.
func TestSteps(t *testing.T) {
	d := plain.Dice(12)
	count := map[api.Errno]int{}
	for range 150 {
		w, h := 1+d.Below(6), 1+d.Below(6)
		c, e := New(w, h)
		if e != api.OK {
			t.Fatalf("P12.1 New(%d, %d): %d", w, h, e)
		}
		x, near := square(w, h), around(w, h)
		hold(t, "P12.1 New", c, x)
		for range 60 {
			y, want, got := step(&d, c, x, near)
			if got != want {
				t.Fatalf("P12.1 %v to %v: %d, want %d", x, y, got, want)
			}
			hold(t, "P12.3", c, y)
			x = y
			count[want]++
		}
	}
	for _, e := range []api.Errno{api.OK, api.Denied, api.Malformed, api.Have, api.Cross, api.Frozen, api.Pinned, api.None} {
		if count[e] < 80 {
			t.Errorf("too few of some: %v", count)
		}
	}
}

// TestAll is of all points of small squares, and of all ways between them: each call on a
// Copy, so that what it is a Copy of is held, too.
func TestAll(t *testing.T) {
	d := plain.Dice(121)
	for i := range 40 {
		w, h := 1+d.Below(4), 1+d.Below(4)
		x, near := square(w, h), around(w, h)
		c := of(t, x)
		for range i {
			x, _, _ = step(&d, c, x, near)
		}
		try := func(what string, p, q api.Point, y state, want api.Errno, call func(c *CDT) api.Errno) {
			t.Helper()
			b := c.Copy()
			if got := call(b); got != want {
				t.Fatalf("P12.1 %s(%v, %v) of %v: %d, want %d", what, p, q, x, got, want)
			}
			if want == api.OK {
				hold(t, "P12.1 "+what, b, y)
			} else if !same(b, c) {
				t.Fatalf("P12.1 %s(%v, %v) of %v changes it, and tells %d", what, p, q, x, want)
			}
		}
		for _, p := range near {
			y, e := x.addPoint(p)
			try("AddPoint", p, p, y, e, func(c *CDT) api.Errno { return c.AddPoint(p) })
			y, e = x.dropPoint(p)
			try("DropPoint", p, p, y, e, func(c *CDT) api.Errno { return c.DropPoint(p) })
			for _, q := range append(x.ps, plain.Strangers()[0], p) {
				y, e = x.dropWall(p, q)
				try("DropWall", p, q, y, e, func(c *CDT) api.Errno { return c.DropWall(p, q) })
				kind := 1 + d.Below(2)
				y, e = x.addWall(p, q, kind)
				try("AddWall", p, q, y, e, func(c *CDT) api.Errno { return c.AddWall(p, q, kind) })
			}
		}
		hold(t, "P12.2 what was copied", c, x)
	}
}

// TestEnds is of squares as great as the grid, or as flat.
func TestEnds(t *testing.T) {
	d := plain.Dice(1212)
	count := map[api.Errno]int{}
	for _, size := range [][2]int{{plain.Far, plain.Far}, {plain.Far, 1}, {1, plain.Far}, {plain.Far - 1, plain.Far}, {plain.Far, 2}, {3, plain.Far}} {
		w, h := size[0], size[1]
		near := append(d.Points(w, h, 14), plain.Strangers()...)
		near = append(near, pt(w-1, h-1), pt(w/2, h/2), pt(0, 1), pt(w, h-1), pt(1, 0), pt(1, 1))
		c, e := New(w, h)
		if e != api.OK {
			t.Fatalf("P12.1 New(%d, %d): %d", w, h, e)
		}
		x := square(w, h)
		for range 150 {
			y, want, got := step(&d, c, x, near)
			if got != want {
				t.Fatalf("P12.1 %v to %v: %d, want %d", x, y, got, want)
			}
			hold(t, "P12.3", c, y)
			x = y
			count[want]++
		}
	}
	if count[api.OK] < 150 || count[api.Cross] < 20 {
		t.Errorf("too few of some: %v", count)
	}
}

// TestWhichever is of more points and walls than a plain reckoning takes: whichever way
// these come about, with others that come and go, the mesh is one.
func TestWhichever(t *testing.T) {
	d := plain.Dice(12121)
	dropped, gone := 0, 0
	for range 12 {
		const side = 60
		ps := d.Points(side, side, 150)
		x := square(side, side)
		var ways [][2]api.Point
		for _, p := range ps[:120] {
			x, _ = x.addPoint(p)
		}
		for range 60 {
			a, b := x.ps[d.Below(len(x.ps))], x.ps[d.Below(len(x.ps))]
			if y, e := x.addWall(a, b, api.Inner); e == api.OK {
				x, ways = y, append(ways, [2]api.Point{b, a})
			}
		}
		c := of(t, x)
		b, _ := New(side, side)
		for _, p := range plain.Mix(&d, ps) {
			b.AddPoint(p)
		}
		for _, v := range plain.Mix(&d, ways) {
			if e := b.AddWall(v[0], v[1], api.Inner); e != api.OK {
				t.Fatalf("P12.1 AddWall(%v): %d", v, e)
			}
		}
		for _, p := range plain.Mix(&d, b.Mesh().Points()) {
			if slices.Contains(x.ps, p) || x.rim(p) {
				continue
			}
			dropped++
			if e := b.DropPoint(p); e != api.OK {
				t.Fatalf("P12.1 DropPoint(%v): %d", p, e)
			}
		}
		for _, v := range plain.Mix(&d, b.Walls().All()) {
			if v.Kind == api.Inner && d.Below(2) == 0 {
				gone++
				if e, f := b.DropWall(v.A, v.B), b.AddWall(v.B, v.A, api.Inner); e != api.OK || f != api.OK {
					t.Fatalf("P12.1 DropWall, AddWall(%v): %d, %d", v, e, f)
				}
			}
		}
		// Points on the frame stay, whether the one has them or the other.
		for _, p := range ps {
			if x.rim(p) {
				c.AddPoint(p)
			}
		}
		if !same(b, c) || !flip.Good(c.Mesh(), c.Walls()) || list(c.Mesh().Tris()).Area() != 2*side*side {
			t.Fatalf("P12.3 %v: %v, and %v", x, b.Mesh().Tris(), c.Mesh().Tris())
		}
	}
	if dropped < 200 || gone < 100 {
		t.Errorf("%d points dropped, %d walls", dropped, gone)
	}
}

// rim tells whether a point is on the frame.
func (x state) rim(p api.Point) bool {
	return p.X == 0 || p.X == x.w || p.Y == 0 || p.Y == x.h
}

// TestMany is of a great many points, one call each, and back.
func TestMany(t *testing.T) {
	const side, n = 1 << 20, 3000
	d := plain.Dice(121212)
	c, _ := New(side, side)
	ps := d.Points(side, side, n)
	for _, p := range plain.Mix(&d, ps) {
		c.AddPoint(p)
	}
	a, b := pt(0, 0), pt(side, side)
	if e := c.AddWall(a, b, api.Inner); e != api.OK && e != api.Have {
		t.Errorf("P12.1 AddWall of many: %d", e)
	}
	if !slices.Equal(c.Mesh().Points(), ps) || c.Walls().Kind(a, b) != api.Inner || !flip.Good(c.Mesh(), c.Walls()) {
		t.Errorf("P12.1 AddPoint of many: %d points, walls %v", len(c.Mesh().Points()), c.Walls().All())
	}
	if e := c.DropWall(a, b); e != api.OK {
		t.Errorf("P12.1 DropWall of many: %d", e)
	}
	for _, p := range plain.Mix(&d, ps) {
		c.DropPoint(p)
	}
	if x, _ := New(side, side); !same(c, x) {
		t.Errorf("P12.3 all dropped: %v", c.Mesh().Tris())
	}
}
