package plain

import (
	"slices"
	"testing"

	"hectare/api"
)

func TestLines(t *testing.T) {
	rows := []struct {
		v, w api.Wall
		want bool
	}{
		{Wl(0, 0, 2, 2, 1), Wl(0, 2, 2, 0, 1), true},
		{Wl(0, 0, 2, 2, 1), Wl(1, 1, 5, 0, 1), true},
		{Wl(1, 1, 5, 0, 1), Wl(0, 0, 2, 2, 1), true},
		{Wl(0, 0, 2, 2, 1), Wl(1, 1, 3, 3, 1), true},
		{Wl(0, 0, 3, 3, 1), Wl(0, 0, 2, 2, 1), true},
		{Wl(0, 0, 2, 2, 1), Wl(0, 0, 2, 2, 2), true},
		{Wl(0, 0, 2, 2, 1), Wl(2, 2, 3, 3, 1), false},
		{Wl(0, 0, 2, 2, 1), Wl(2, 2, 2, 0, 1), false},
		{Wl(0, 0, 2, 2, 1), Wl(0, 1, 2, 3, 1), false},
		{Wl(0, 0, 2, 2, 1), Wl(3, 3, 4, 4, 1), false},
		{Wl(0, 0, 2, 2, 1), Wl(2, 3, 5, 0, 1), false},
	}
	for _, r := range rows {
		if got := Meet(Between(r.v.A, r.v.B), Between(r.w.B, r.w.A)); got != r.want {
			t.Errorf("Meet(%v, %v): %v", r.v, r.w, got)
		}
	}
	ps := []api.Point{Pt(0, 0), Pt(1, 1), Pt(2, 2), Pt(2, 3), Pt(3, 3)}
	if got := Stops(ps, Pt(3, 3), Pt(0, 0)); !slices.Equal(got, []api.Point{Pt(3, 3), Pt(2, 2), Pt(1, 1), Pt(0, 0)}) {
		t.Errorf("Stops: %v", got)
	}
	if got := Stops(ps, Pt(1, 1), Pt(4, 4)); got != nil {
		t.Errorf("Stops to no point: %v", got)
	}
	row := []api.Wall{Wl(0, 0, 2, 2, 1), Wl(2, 2, 3, 0, 2)}
	for _, r := range []struct {
		b    api.Point
		want api.Errno
	}{{Pt(0, 0), api.Have}, {Pt(1, 1), api.Cross}, {Pt(3, 3), api.OK}, {Pt(3, 0), api.Have}} {
		if got := Clash(row, Pt(2, 2), r.b); got != r.want {
			t.Errorf("Clash to %v: %d", r.b, got)
		}
	}
}

// TestCut is that squares are covered, each place once, with all points and walls, ahead of
// a Stir and after it.
func TestCut(t *testing.T) {
	d := Dice(1)
	turned := 0
	for range 60 {
		w, h := 1+d.Below(6), 1+d.Below(6)
		ps := d.Points(w, h, d.Below(10))
		row := slices.DeleteFunc(d.Walls(nil, w, h, 6), func(v api.Wall) bool { return len(Stops(ps, v.A, v.B)) != 2 })
		one := Cut(ps, row)
		two := d.Stir(one, row, 30)
		for _, l := range []List{one, two} {
			es := l.Edges()
			for _, v := range row {
				if es[Between(v.A, v.B)] == 0 {
					t.Errorf("%v is no edge of %v", v, l)
				}
			}
			for e, n := range es {
				rim := e.A.X == e.B.X && e.A.X%w == 0 || e.A.Y == e.B.Y && e.A.Y%h == 0
				if n != 2 && !rim || n != 1 && rim {
					t.Errorf("%v is an edge of %d of %v", e, n, l)
				}
			}
			if l.Area() != 2*w*h || !slices.Equal(l.Points(), ps) {
				t.Errorf("%v does not cover %d by %d", l, w, h)
			}
		}
		for _, u := range two {
			if !slices.Contains(one, u) {
				turned++
			}
		}
	}
	if turned < 100 {
		t.Errorf("%d triangles turned", turned)
	}
}

// TestHeap is that no edge of a heap is there twice in one direction, and that some of it
// lies over others.
func TestHeap(t *testing.T) {
	d := Dice(2)
	l := d.Heap(Cut(d.Points(4, 4, 3), nil), 4, 4, 200)
	seen := map[[2]api.Point]int{}
	for _, u := range l {
		for _, v := range Sides(u) {
			seen[v]++
		}
		if Twice(u.A, u.B, u.C) <= 0 || Order(u.A, u.B) > 0 || Order(u.A, u.C) > 0 {
			t.Errorf("no triangle: %v", u)
		}
	}
	if len(seen) != 3*len(l) || l.Area() < 4*4*2*2 {
		t.Errorf("a heap: %v", l)
	}
}
