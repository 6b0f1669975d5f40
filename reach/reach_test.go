package reach

import (
	"math"
	"testing"

	"hectare/api"
	"hectare/tri"
)

const far = api.Grid - 1

func pt(x, y int) api.Point { return api.Point{X: x, Y: y} }

func tr(a, b, c api.Point) api.Tri { return api.Tri{A: a, B: b, C: c} }

func rect(x0, y0, x1, y1 int) api.Rect { return api.Rect{X0: x0, Y0: y0, X1: x1, Y1: y1} }

var (
	all  = rect(0, 0, far, far)
	tall = tr(pt(2, 2), pt(8, 2), pt(2, 8))
	thin = tr(pt(0, 0), pt(far, far-1), pt(far, far))
)

// points is all points with coordinates of a list.
func points(l ...int) []api.Point {
	var m []api.Point
	for _, x := range l {
		for _, y := range l {
			m = append(m, pt(x, y))
		}
	}
	return m
}

// windows is all windows with coordinates of a rising list.
func windows(l ...int) []api.Rect {
	var m []api.Rect
	for _, p := range points(l...) {
		for _, q := range points(l...) {
			if p.X <= q.X && p.Y <= q.Y {
				m = append(m, rect(p.X, p.Y, q.X, q.Y))
			}
		}
	}
	return m
}

// triangles is all that some points make.
func triangles(l []api.Point) []api.Tri {
	var m []api.Tri
	for i, a := range l {
		for j, b := range l[:i] {
			for _, c := range l[:j] {
				if t, ok := tri.Make(a, b, c); ok {
					m = append(m, t)
				}
			}
		}
	}
	return m
}

// great is triangles that need all of the grid, or its ends.
func great() []api.Tri {
	return append(triangles(points(0, far-1, far)), triangles(points(0, 1, far/2, far)[:9])...)
}

// strangers is points that are not Valid.
func strangers() []api.Point {
	return []api.Point{
		pt(-1, 3), pt(3, -1), pt(far+1, 3), pt(3, far+1), pt(-1, -1), pt(far+1, far+1),
		pt(math.MinInt, 3), pt(3, math.MinInt), pt(math.MaxInt, 3), pt(3, math.MaxInt),
		pt(math.MaxInt, math.MaxInt), pt(math.MinInt, math.MinInt), pt(3+1<<32, 3), pt(3, 3+1<<32),
	}
}

// bad is triangles that are not Valid.
func bad() []api.Tri {
	l := []api.Tri{
		{},
		tr(pt(8, 2), pt(2, 8), pt(2, 2)), tr(pt(2, 8), pt(2, 2), pt(8, 2)), // A is not the least
		tr(pt(2, 2), pt(2, 8), pt(8, 2)), // round to the right
		tr(pt(2, 2), pt(4, 4), pt(8, 8)), tr(pt(2, 2), pt(2, 2), pt(8, 2)), tr(pt(2, 2), pt(2, 2), pt(2, 2)),
		tr(pt(-1, 0), pt(8, 2), pt(2, 8)), tr(pt(0, 0), pt(far+1, 0), pt(0, far)), tr(pt(0, 0), pt(far, 0), pt(0, far+1)),
	}
	for _, s := range strangers() {
		l = append(l, tr(s, pt(8, 2), pt(2, 8)), tr(pt(2, 2), s, pt(2, 8)), tr(pt(2, 2), pt(8, 2), s))
	}
	return l
}

// noWindows is windows that may not be, nearly all of which share points with tall.
func noWindows() []api.Rect {
	l := []api.Rect{rect(5, 3, 4, 5), rect(3, 5, 5, 4), rect(far, 0, 0, far), rect(0, far, far, 0), rect(4, 4, 3, 3), rect(1, 0, 0, 0), rect(0, 1, 0, 0)}
	for _, n := range []int{-1, -2, math.MinInt, -1 << 32} {
		l = append(l, rect(n, 3, 4, 4), rect(3, n, 4, 4), rect(3, 3, n, 4), rect(3, 3, 4, n), rect(n, n, n, n))
	}
	for _, n := range []int{far + 1, far + 2, math.MaxInt, 1 << 32} {
		l = append(l, rect(n, 3, 4, 4), rect(3, n, 4, 4), rect(3, 3, n, 4), rect(3, 3, 4, n), rect(n, n, n, n))
	}
	return append(l, rect(math.MinInt, math.MinInt, math.MaxInt, math.MaxInt), rect(0, 0, far+1, far+1), rect(-1, -1, far, far))
}

func TestWindow(t *testing.T) {
	l := append(windows(0, 1, 2, far/2, far-1, far), all, rect(0, 0, 0, 0), rect(far, far, far, far), rect(0, far, far, far))
	for _, r := range l {
		if !Window(r) {
			t.Errorf("P4.1 Window(%v): false", r)
		}
	}
	for _, r := range noWindows() {
		if Window(r) {
			t.Errorf("P4.1 Window(%v): true", r)
		}
	}
}

func TestOverlaps(t *testing.T) {
	hold := func(l []api.Tri, m []api.Rect) {
		for _, u := range l {
			for _, r := range m {
				if got, want := Overlaps(u, r), shared(u, r); got != want {
					t.Fatalf("P4.1 Overlaps(%v, %v): %v", u, r, got)
				}
			}
		}
	}
	hold(triangles(points(0, 1, 2, 3)), windows(0, 1, 2, 3))
	hold([]api.Tri{tall, tr(pt(1, 3), pt(9, 1), pt(5, 8)), tr(pt(0, 9), pt(4, 0), pt(5, 1))}, windows(0, 1, 2, 3, 4, 5, 6, 7, 8, 9))
	hold(great(), windows(0, 1, far/2, far-1, far))
}

func TestOverlapsRows(t *testing.T) {
	slant := tr(pt(0, 0), pt(9, 1), pt(1, 9))
	rows := []struct {
		what string
		t    api.Tri
		r    api.Rect
		want bool
	}{
		{"one point, inside", tall, rect(3, 3, 3, 3), true},
		{"one point, on an edge", tall, rect(5, 5, 5, 5), true},
		{"one point, a corner", tall, rect(8, 2, 8, 2), true},
		{"one point, beyond the slanted edge", tall, rect(5, 6, 5, 6), false},
		{"one point, in an edge's line", tall, rect(9, 2, 9, 2), false},
		{"one line, through it", tall, rect(0, 4, 9, 4), true},
		{"one line, along an edge alone", tall, rect(3, 2, 5, 2), true},
		{"one line, in an edge's line beyond it", tall, rect(9, 2, 12, 2), false},
		{"one line, at a corner alone", tall, rect(0, 8, 9, 8), true},
		{"one line, upright, beside it", tall, rect(1, 0, 1, 9), false},
		{"all of the grid", tall, all, true},
		{"a corner alone, with a corner", tall, rect(8, 0, 9, 2), true},
		{"a corner alone, with a side", tr(pt(2, 2), pt(8, 0), pt(8, 4)), rect(0, 0, 2, 9), true},
		{"the slanted edge alone, with a corner", tall, rect(5, 5, 9, 9), true},
		{"an edge alone, with a side", tall, rect(0, 3, 2, 5), true},
		{"wholly inside", tall, rect(3, 3, 4, 4), true},
		{"about it", tall, rect(1, 1, 9, 9), true},
		{"its own box", tall, rect(2, 2, 8, 8), true},
		{"parted by the slanted edge only", tall, rect(6, 5, 8, 8), false},
		{"parted by the upright only", tall, rect(0, 3, 1, 5), false},
		{"parted by the level only", tall, rect(3, 0, 5, 1), false},
		{"parted by each slanted edge", slant, rect(5, 6, 9, 9), false},
		{"parted by the first edge only", slant, rect(5, 0, 9, 0), false},
		{"parted by the last edge only", slant, rect(0, 5, 0, 9), false},
		{"no point of the grid in common", tr(pt(0, 0), pt(3, 1), pt(3, 2)), rect(1, 0, 1, 9), true},
		{"nor with a lying line", tr(pt(0, 0), pt(2, 3), pt(1, 3)), rect(0, 1, 9, 1), true},
		{"a thin one, beside it", thin, rect(far-1, far, far-1, far), false},
		{"a thin one, on the other side", thin, rect(far-1, 0, far-1, far-3), false},
		{"a thin one, from the one side to the other", thin, rect(far-1, 0, far-1, far), true},
		{"a thin one, at its edge", thin, rect(far-1, 0, far-1, far-1), true},
		{"a thin one, near to its edge", thin, rect(2, 0, 9, 0), false},
	}
	for _, r := range rows {
		if got := Overlaps(r.t, r.r); got != r.want {
			t.Errorf("P4.1 %s: Overlaps(%v, %v): %v", r.what, r.t, r.r, got)
		}
	}
}

func TestOverlapsWrong(t *testing.T) {
	for _, r := range noWindows() {
		for _, u := range append(great(), tall, thin) {
			if Overlaps(u, r) {
				t.Errorf("P4.1 Overlaps(%v, %v): true", u, r)
			}
		}
	}
	for _, u := range bad() {
		for _, r := range append(noWindows(), all, rect(2, 2, 8, 8), rect(3, 3, 3, 3)) {
			if Overlaps(u, r) {
				t.Errorf("P4.1 Overlaps(%v, %v): true", u, r)
			}
		}
	}
}

func TestAll(t *testing.T) {
	for _, l := range [][]api.Tri{triangles(points(0, 1, 2, 3)), triangles(points(far-2, far-1, far)), great(), {tall, thin}} {
		for _, u := range l {
			if !Overlaps(u, all) {
				t.Errorf("P4.3 Overlaps(%v, all of the grid): false", u)
			}
		}
	}
}

func TestAlong(t *testing.T) {
	hold := func(l []api.Tri, m []api.Point) {
		for _, u := range l {
			for i, a := range m {
				for _, b := range m[:i+1] {
					want := piece(u, a, b)
					if got, back := Along(u, a, b), Along(u, b, a); got != want || back != want {
						t.Fatalf("P4.2 Along(%v, %v, %v): %v, from the other end %v", u, a, b, got, back)
					}
				}
			}
		}
	}
	hold(triangles(points(0, 1, 2, 3)), points(0, 1, 2, 3))
	hold([]api.Tri{tall, tr(pt(1, 3), pt(9, 1), pt(5, 8)), tr(pt(3, 4), pt(5, 4), pt(4, 5))}, points(0, 1, 2, 3, 4, 5, 6, 7, 8, 9))
	hold(great(), points(0, 1, far/2, far-1, far))
}

func TestAlongRows(t *testing.T) {
	rows := []struct {
		what string
		t    api.Tri
		a, b api.Point
		want bool
	}{
		{"all of an edge", tall, pt(2, 2), pt(8, 2), true},
		{"a piece of an edge", tall, pt(3, 2), pt(5, 2), true},
		{"an edge and beyond", tall, pt(0, 2), pt(9, 2), true},
		{"into an edge", tall, pt(0, 2), pt(3, 2), true},
		{"along the slanted edge", tall, pt(3, 7), pt(9, 1), true},
		{"an edge's line, beyond it", tall, pt(9, 2), pt(12, 2), false},
		{"an edge's line, as far as its end", tall, pt(0, 2), pt(2, 2), false},
		{"an edge's line, away from its end", tall, pt(8, 2), pt(12, 2), false},
		{"inside", tall, pt(3, 3), pt(4, 4), true},
		{"from inside to without", tall, pt(3, 3), pt(9, 9), true},
		{"one corner only", tall, pt(0, 4), pt(4, 0), false},
		{"past one corner, on the inside", tall, pt(0, 4), pt(4, 1), true},
		{"through all of it", tall, pt(0, 0), pt(9, 9), true},
		{"from a corner through the inside", tall, pt(2, 2), pt(9, 8), true},
		{"from a corner away", tall, pt(8, 2), pt(9, 9), false},
		{"from a corner away, in the angle across", tall, pt(2, 2), pt(0, 0), false},
		{"from an edge away", tall, pt(5, 5), pt(9, 9), false},
		{"to an edge from without", tall, pt(5, 0), pt(5, 2), false},
		{"from an edge inward", tall, pt(5, 5), pt(4, 4), true},
		{"from edge to edge", tall, pt(4, 2), pt(2, 4), true},
		{"from inside over the slanted edge", tall, pt(6, 3), pt(9, 3), true},
		{"another corner only", tall, pt(7, 0), pt(9, 4), false},
		{"past a corner, without it", tall, pt(8, 0), pt(9, 4), false},
		{"toward it, not as far", tall, pt(0, 3), pt(1, 3), false},
		{"away at both ends of its line", tall, pt(9, 3), pt(12, 3), false},
		{"beside it", tall, pt(1, 2), pt(1, 8), false},
		{"along a thin one", thin, pt(1, 1), pt(2, 2), true},
		{"into a thin one's end", thin, pt(far-1, far-2), pt(far, far), true},
		{"across a thin one", thin, pt(2, 0), pt(0, 2), true},
		{"past a thin one", thin, pt(2, 0), pt(far, far-2), false},
		{"to a thin one's corner", thin, pt(far-1, 0), pt(far, far-1), false},
		{"nearly along a thin one", thin, pt(0, 1), pt(far-1, far), false},
	}
	for _, r := range rows {
		if got := Along(r.t, r.a, r.b); got != r.want {
			t.Errorf("P4.2 %s: Along(%v, %v, %v): %v", r.what, r.t, r.a, r.b, got)
		}
		if got := Along(r.t, r.b, r.a); got != r.want {
			t.Errorf("P4.2 %s, from the other end: Along(%v, %v, %v): %v", r.what, r.t, r.b, r.a, got)
		}
	}
}

func TestAlongWrong(t *testing.T) {
	ends := append(points(0, 3, 5), pt(2, 2), pt(8, 2), pt(far, far))
	for _, u := range append(great(), tall, thin) {
		for _, p := range ends {
			if Along(u, p, p) {
				t.Errorf("P4.2 Along(%v, %v, %v): true", u, p, p)
			}
			for _, s := range strangers() {
				if Along(u, p, s) || Along(u, s, p) || Along(u, s, s) {
					t.Errorf("P4.2 Along(%v) of %v and %v: true", u, p, s)
				}
			}
		}
	}
	for _, u := range bad() {
		for _, p := range append(ends, strangers()...) {
			for _, q := range append(ends, strangers()...) {
				if Along(u, p, q) {
					t.Errorf("P4.2 Along(%v, %v, %v): true", u, p, q)
				}
			}
		}
	}
}
