package walk

import (
	"math"
	"slices"
	"testing"

	"hectare/api"
	"hectare/mesh"
)

// made is a Mesh of triangles that may be, named in another order than theirs.
func made(t *testing.T, l list) *mesh.Mesh {
	t.Helper()
	turned := slices.Clone(l)
	slices.Reverse(turned)
	m, e := mesh.New(turned)
	if e != api.OK {
		t.Fatalf("mesh.New(%v): %d", l, e)
	}
	return m
}

// points is all points of some rows and columns.
func points(l ...int) []api.Point {
	var m []api.Point
	for _, x := range l {
		for _, y := range l {
			m = append(m, pt(x, y))
		}
	}
	return m
}

// strangers is points that are not Valid.
func strangers() []api.Point {
	return []api.Point{
		pt(-1, 2), pt(2, -1), pt(far+1, 2), pt(2, far+1), pt(-1, -1), pt(far+1, far+1),
		pt(math.MinInt, 2), pt(2, math.MinInt), pt(math.MaxInt, 2), pt(2, math.MaxInt),
		pt(math.MinInt, math.MinInt), pt(math.MaxInt, math.MaxInt), pt(2+1<<32, 2), pt(2, 2-1<<32),
	}
}

// hold holds the walks of a Mesh against those of a list, at some points and on all
// the ways from one to another, and that the Mesh is not changed by it.
func hold(t *testing.T, what string, m *mesh.Mesh, l list, near []api.Point) {
	t.Helper()
	for i, p := range near {
		if got, want := At(m, p), l.at(p); !slices.Equal(got, want) {
			t.Fatalf("P6.1 %s: At(%v) of %v: %v, want %v", what, p, l, got, want)
		}
		if got, want := Star(m, p), l.star(p); !slices.Equal(got, want) {
			t.Fatalf("P6.1 %s: Star(%v) of %v: %v, want %v", what, p, l, got, want)
		}
		if got, want := Closed(m, p), l.closed(p); got != want {
			t.Fatalf("P6.1 %s: Closed(%v) of %v: %v", what, p, l, got)
		}
		for _, q := range near[:i+1] {
			want := l.trail(p, q)
			if got := Trail(m, p, q); !slices.Equal(got, want) {
				t.Fatalf("P6.1 %s: Trail(%v, %v) of %v: %v, want %v", what, p, q, l, got, want)
			}
			if got := Trail(m, q, p); !slices.Equal(got, want) {
				t.Fatalf("P6.1 %s: Trail(%v, %v) of %v: %v, want %v", what, q, p, l, got, want)
			}
		}
	}
	if got, want := m.Tris(), l.those(func(api.Tri) bool { return true }); !slices.Equal(got, want) {
		t.Fatalf("P6.2 %s: the Mesh is changed: %v, want %v", what, got, want)
	}
}

// covers holds the walks of a Mesh that covers the square from (0,0) to (n,n), each
// place once, against what follows there at some points.
func covers(t *testing.T, what string, m *mesh.Mesh, n int, near []api.Point) {
	t.Helper()
	corners := m.Points()
	for _, p := range near {
		at, star := At(m, p), Star(m, p)
		rim := p.X == 0 || p.Y == 0 || p.X == n || p.Y == n
		switch {
		case p.X > n || p.Y > n:
			if len(at)+len(star) > 0 || Closed(m, p) {
				t.Fatalf("P6.2 %s: %v is outside: At %v, Star %v", what, p, at, star)
			}
		case slices.Contains(corners, p):
			if len(star) == 0 || !slices.Equal(at, star) || Closed(m, p) == rim {
				t.Fatalf("P6.2 %s: %v is a corner: At %v, Star %v, Closed %v", what, p, at, star, Closed(m, p))
			}
		case len(star) > 0 || Closed(m, p) || len(at) != 1 && (rim || len(at) != 2):
			t.Fatalf("P6.2 %s: %v is no corner: At %v, Star %v", what, p, at, star)
		}
	}
}

// TestRandom is of squares that are cut at points, of what is left of these when some
// go, and of heaps.
func TestRandom(t *testing.T) {
	d := dice(6)
	near := points(0, 1, 2, 3, 4, 5, 6, 7)
	for range 12 {
		var some []api.Point
		for range d.below(9) {
			some = append(some, d.point(7))
		}
		l := square(6, some...)
		m := made(t, l)
		hold(t, "a square", m, l, near)
		covers(t, "a square", m, 6, near)
		k := 2 + d.below(4)
		l = l.without(func(i int) bool { return i%k == 1 })
		hold(t, "one with holes", made(t, l), l, near)
		l = heap(&d, 12, 7)
		hold(t, "a heap", made(t, l), l, near)
	}
}

// TestChanges is that the walks are those of the Mesh as it stands, whatever was done
// with it.
func TestChanges(t *testing.T) {
	d := dice(66)
	near := points(0, 1, 2, 3, 4, 5)
	l := square(4)
	m := made(t, l)
	flips := 0
	for range 40 {
		cut := l.cut(d.point(5))
		if e := m.Replace(l, cut); e != api.OK {
			t.Fatalf("Replace(%v, %v): %d", l, cut, e)
		}
		l = cut
		w := ways(l[d.below(len(l))])[d.below(3)]
		if m.Flip(w[0], w[1]) == api.OK {
			flips++
			l = m.Tris()
		}
		hold(t, "on the way", m, l, near[:14])
		covers(t, "on the way", m, 4, near)
	}
	if flips < 5 {
		t.Errorf("the way has %d flips", flips)
	}
	gone := m.Tris()[3]
	if e := m.Replace([]api.Tri{gone}, nil); e != api.OK {
		t.Fatalf("Replace of %v: %d", gone, e)
	}
	hold(t, "when one is gone", m, l.without(func(i int) bool { return l[i] == gone }), near)
}

// TestFar is of meshes that need all of the grid, or its ends.
func TestFar(t *testing.T) {
	middle := pt(far/2, far/2+1)
	near := append(points(0, 1, far-1, far), middle, pt(far/2, far/2), pt(far-1, far-2), pt(far/2+1, far/2+1))
	for _, some := range [][]api.Point{nil, {middle}, {pt(far-1, far-1)}, {pt(far, far-1), pt(1, 0)}, {pt(far-1, far-2), pt(1, 2), middle}} {
		l := square(far, some...)
		m := made(t, l)
		hold(t, "all of the grid", m, l, near)
		covers(t, "all of the grid", m, far, near)
	}
	l := list{tr(0, 0, far, far-1, far, far), tr(0, 0, far-1, far, 0, 1), tr(0, 0, far, far, far-1, far)}
	hold(t, "thin ones", made(t, l), l, near)
	for _, p := range points(0, far-1, far) {
		if got, want := Trail(made(t, l), p, middle), l.trail(p, middle); !slices.Equal(got, want) {
			t.Errorf("P6.1 Trail(%v, %v) of %v: %v, want %v", p, middle, l, got, want)
		}
	}
}

// TestNone is of no triangles, and of a nil Mesh.
func TestNone(t *testing.T) {
	empty := made(t, square(4))
	if e := empty.Replace(empty.Tris(), nil); e != api.OK {
		t.Fatalf("Replace: %d", e)
	}
	near := append(strangers(), points(0, 1, far)...)
	for name, m := range map[string]*mesh.Mesh{"nil": nil, "none": made(t, nil), "zero": {}, "all gone": empty} {
		hold(t, name, m, nil, near)
		if m.Len() != 0 {
			t.Errorf("P6.2 %s: Len %d", name, m.Len())
		}
	}
}

// TestWrong is of points that are not Valid, and of ways from a point to itself.
func TestWrong(t *testing.T) {
	d := dice(666)
	for _, l := range []list{square(4), square(4, pt(2, 2)), square(far), square(far, pt(2, 2)), heap(&d, 12, 5)} {
		m := made(t, l)
		for _, s := range strangers() {
			if got := append(At(m, s), Star(m, s)...); len(got) > 0 || Closed(m, s) {
				t.Errorf("P6.1 %v is not Valid: %v, Closed %v", s, got, Closed(m, s))
			}
			for _, p := range append(points(0, 1, 2, far), strangers()...) {
				if got := append(Trail(m, s, p), Trail(m, p, s)...); len(got) > 0 {
					t.Errorf("P6.1 Trail of %v and %v: %v", s, p, got)
				}
			}
		}
		for _, p := range points(0, 1, 2, 3, 4, 5, far) {
			if got := Trail(m, p, p); len(got) > 0 {
				t.Errorf("P6.1 Trail(%v, %v): %v", p, p, got)
			}
		}
	}
}

// TestKept is that answers are new memory, that none of them is kept, and that the
// Mesh goes on as it is when they are changed.
func TestKept(t *testing.T) {
	l := square(4, pt(2, 2), pt(1, 3))
	m := made(t, l)
	near := points(0, 1, 2, 3, 4)
	for name, ask := range map[string]func() []api.Tri{
		"At":    func() []api.Tri { return At(m, pt(2, 2)) },
		"Star":  func() []api.Tri { return Star(m, pt(2, 2)) },
		"Trail": func() []api.Tri { return Trail(m, pt(0, 0), pt(4, 4)) },
		"all":   func() []api.Tri { return Trail(m, pt(0, 1), pt(4, 2)) },
	} {
		one, other := ask(), ask()
		want := slices.Clone(other)
		if len(want) < 2 {
			t.Fatalf("%s: %v", name, want)
		}
		clear(one[:cap(one)])
		if again := ask(); !slices.Equal(other, want) || !slices.Equal(again, want) {
			t.Errorf("P6.2 %s: answers share memory: %v and %v, want %v", name, other, again, want)
		}
		hold(t, name, m, l, near)
	}
}
