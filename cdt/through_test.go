package cdt

import (
	"slices"
	"testing"

	"hectare/api"
	"hectare/mesh"
	"hectare/plain"
	"hectare/tri"
	"hectare/walk"
)

// some is a CDT of some points and walls.
func some(t *testing.T, d *plain.Dice, w, h, points, tries int) (*CDT, state) {
	t.Helper()
	x := square(w, h)
	for range points {
		x, _ = x.addPoint(d.Point(w, h))
	}
	for range tries {
		x, _ = x.addWall(x.ps[d.Below(len(x.ps))], x.ps[d.Below(len(x.ps))], api.Inner)
	}
	return of(t, x), x
}

// TestAt is that each point is reached from each triangle, and from none.
func TestAt(t *testing.T) {
	d := plain.Dice(1)
	for i := range 60 {
		w, h := 1+d.Below(5), 1+d.Below(5)
		c, x := some(t, &d, w, h, i%12, i%5)
		for _, p := range around(w, h) {
			want := walk.At(c.m, p)
			for _, from := range append(c.m.Tris(), api.Tri{}, tr(0, 0, 9, 9, 0, 9)) {
				got := c.at(from, p)
				slices.SortFunc(got, tri.Cmp)
				if !slices.Contains(x.ps, p) && !slices.Equal(got, want) {
					t.Fatalf("at(%v, %v) of %v: %v, want %v", from, p, x, got, want)
				}
				for _, u := range got {
					if !slices.Contains(want, u) {
						t.Fatalf("at(%v, %v) of %v: %v, want some of %v", from, p, x, got, want)
					}
				}
				if len(got) == 0 && len(want) > 0 {
					t.Fatalf("at(%v, %v) of %v: none, want some of %v", from, p, x, want)
				}
			}
		}
	}
}

// TestTrail is that a way goes through all that it has a point inside of, and beside each
// edge that it goes along.
func TestTrail(t *testing.T) {
	d := plain.Dice(2)
	longest := 0
	for i := range 60 {
		w, h := 1+d.Below(7), 1+d.Below(7)
		c, x := some(t, &d, w, h, i%16, i%5)
		for _, a := range x.ps {
			for _, b := range around(w, h) {
				if a == b {
					continue
				}
				all, got := walk.Trail(c.m, a, b), c.trail(api.Tri{}, a, b)
				if !x.in(b) {
					if len(got) > 0 {
						t.Fatalf("trail(%v, %v) of %v: %v", a, b, x, got)
					}
					continue
				}
				longest = max(longest, len(got))
				for _, u := range all {
					if crossed(u, a, b) && !slices.Contains(got, u) {
						t.Fatalf("trail(%v, %v) of %v: %v, without %v", a, b, x, got, u)
					}
				}
				at := list(got).Points()
				for _, p := range list(all).Points() {
					if plain.Within(p, a, b) && !slices.Contains(at, p) {
						t.Fatalf("trail(%v, %v) of %v: %v, without %v", a, b, x, got, p)
					}
				}
				for _, u := range got {
					if !slices.Contains(all, u) {
						t.Fatalf("trail(%v, %v) of %v: %v, want of %v", a, b, x, got, all)
					}
				}
				if n := len(slices.CompactFunc(slices.SortedFunc(slices.Values(got), tri.Cmp), func(s, t api.Tri) bool { return s == t })); n != len(got) {
					t.Fatalf("trail(%v, %v) of %v: some twice: %v", a, b, x, got)
				}
			}
		}
	}
	if longest < 8 {
		t.Errorf("the longest trail: %d", longest)
	}
}

// crossed tells whether a way crosses an edge of a triangle.
func crossed(u api.Tri, a, b api.Point) bool {
	for _, v := range plain.Sides(u) {
		if plain.Apart(a, b, v[0], v[1]) && plain.Apart(v[0], v[1], a, b) {
			return true
		}
	}
	return false
}

// TestNone is that there is no trail from what is no corner.
func TestNone(t *testing.T) {
	c, _ := New(4, 4)
	for _, a := range append(plain.Strangers(), pt(1, 1), pt(2, 0), pt(1, 2), pt(5, 5)) {
		for _, b := range append(plain.Strangers(), pt(0, 0), pt(4, 0), a) {
			if l := c.trail(api.Tri{}, a, b); len(l) > 0 {
				t.Errorf("trail(%v, %v): %v", a, b, l)
			}
		}
	}
}

// TestHeaps is that a way ends, whatever the triangles, and that the last one has its end.
func TestHeaps(t *testing.T) {
	d := plain.Dice(3)
	reached := 0
	for i := range 300 {
		w, h := 2+d.Below(4), 2+d.Below(4)
		var l list
		if i%3 > 0 {
			c, _ := New(w, h)
			c.AddPoint(d.Point(w, h))
			l = c.m.Tris()
			l = plain.Without(l, l[d.Below(len(l))])
		}
		l = d.Heap(l, w, h, 1+i%50)
		m, e := mesh.New(l)
		if e != api.OK {
			t.Fatalf("mesh.New(%v): %d", l, e)
		}
		for _, u := range l {
			for _, v := range plain.Sides(u) {
				for _, b := range around(w, h) {
					way := through(m, u, v[0], b)
					if len(way) == 0 {
						continue
					}
					reached++
					if !tri.Has(way[len(way)-1], b) || len(way) > len(l) {
						t.Fatalf("through from %v to %v, of %v: %v", v[0], b, l, way)
					}
				}
			}
		}
	}
	if reached < 1000 {
		t.Errorf("%d reached", reached)
	}
}

// TestSpread is that each point is told once, of whatever list, and a few ahead of most.
func TestSpread(t *testing.T) {
	d := plain.Dice(4)
	for n := range 70 {
		var l []api.Point
		for i := range n {
			l = append(l, pt(i*i, i%7))
		}
		l = plain.Mix(&d, l)
		kept := slices.Clone(l)
		got := spread(l)
		if !slices.Equal(l, kept) {
			t.Fatalf("spread changes what is handed in: %v", l)
		}
		slices.SortFunc(got, plain.Order)
		slices.SortFunc(kept, plain.Order)
		if !slices.Equal(got, kept) {
			t.Fatalf("spread(%v): %v", kept, got)
		}
	}
}
