package grow

import (
	"slices"
	"testing"

	"hectare/api"
	"hectare/exact"
	"hectare/flip"
	"hectare/mesh"
	"hectare/tri"
	"hectare/walls"
)

// square is two triangles, with borders about them, and a wall of that kind between
// them, if it is one.
func square(t *testing.T, w, h, between int) (*mesh.Mesh, *walls.Set) {
	t.Helper()
	m, e := mesh.New([]api.Tri{tr(0, 0, w, 0, w, h), tr(0, 0, w, h, 0, h)})
	l := []api.Wall{wl(0, 0, 0, h, 2), wl(0, 0, w, 0, 2), wl(0, h, w, h, 2), wl(w, 0, w, h, 2)}
	if between != 0 {
		l = append(l, wl(0, 0, w, h, between))
	}
	s, f := walls.New(l)
	if e != api.OK || f != api.OK {
		t.Fatalf("square: %d, %d", e, f)
	}
	return m, s
}

// dice is numbers that are always the same ones.
type dice uint64

func (d *dice) below(n int) int {
	*d = *d*6364136223846793005 + 1442695040888963407
	return int(uint64(*d) >> 33 % uint64(n))
}

// points is some points of a square, each once, its corners not among them.
func (d *dice) points(w, h, n int) []api.Point {
	var l []api.Point
	for range n {
		p := pt(d.below(w+1), d.below(h+1))
		if d.below(3) == 0 {
			// On the way across.
			p = pt(p.X, p.X*h/w)
		}
		if !slices.Contains(l, p) && !slices.Contains(corners(w, h), p) {
			l = append(l, p)
		}
	}
	return l
}

// mix is the same points, in another order.
func (d *dice) mix(l []api.Point) []api.Point {
	l = slices.Clone(l)
	for i := range l {
		j := i + d.below(len(l)-i)
		l[i], l[j] = l[j], l[i]
	}
	return l
}

func corners(w, h int) []api.Point {
	return []api.Point{pt(0, 0), pt(0, h), pt(w, 0), pt(w, h)}
}

// empty is the triangles of some points with none of these within their circles.
func empty(ps []api.Point) []api.Tri {
	var l []api.Tri
	for i, a := range ps {
		for j, b := range ps[:i] {
			for _, c := range ps[:j] {
				u, ok := tri.Make(a, b, c)
				if ok && !slices.ContainsFunc(ps, func(p api.Point) bool { return exact.Circle(u.A, u.B, u.C, p) > 0 }) {
					l = append(l, u)
				}
			}
		}
	}
	return l
}

// want is the triangles of a square and some points in it; with a wall across, each
// half is told for itself.
func want(w, h, between int, ps []api.Point) []api.Tri {
	ps = append(slices.Clone(ps), corners(w, h)...)
	l := empty(ps)
	if between != 0 {
		half := func(side int) []api.Point {
			return slices.DeleteFunc(slices.Clone(ps), func(p api.Point) bool { return exact.Orient(pt(0, 0), pt(w, h), p) == side })
		}
		l = append(empty(half(1)), empty(half(-1))...)
	}
	slices.SortFunc(l, tri.Cmp)
	return l
}

// fenced is the walls of a square, each cut at those of some points that are on it.
func fenced(w, h, between int, ps []api.Point) []api.Wall {
	row := []api.Wall{wl(0, 0, 0, h, 2), wl(0, 0, w, 0, 2), wl(0, h, w, h, 2), wl(w, 0, w, h, 2)}
	if between != 0 {
		row = append(row, wl(0, 0, w, h, between))
	}
	return cutAt(row, ps)
}

// TestOrder is that in whatever order points come, it is the mesh of all of them.
func TestOrder(t *testing.T) {
	d := dice(9)
	parts := 0
	for i := range 150 {
		w, h, between := 1+d.below(9), 1+d.below(9), i%3
		ps := d.points(w, h, d.below(14))
		tris, row := want(w, h, between, ps), fenced(w, h, between, ps)
		parts += len(row)
		for range 4 {
			m, s := square(t, w, h, between)
			for _, p := range d.mix(ps) {
				if e := Point(m, s, p); e != api.OK {
					t.Fatalf("P9.2 Point(%v) of %d by %d: %d", p, w, h, e)
				}
			}
			if !slices.Equal(m.Tris(), tris) || !slices.Equal(s.All(), row) {
				t.Fatalf("P9.3 %v in %d by %d, a wall of %d: %v and %v, want %v and %v", ps, w, h, between, m.Tris(), s.All(), tris, row)
			}
		}
	}
	if parts < 900 {
		t.Errorf("%d walls", parts)
	}
}

// TestWay is that on the way each point that came is a corner, and nothing else.
func TestWay(t *testing.T) {
	d := dice(99)
	const w, h = 7, 5
	m, s := square(t, w, h, api.Inner)
	var ps []api.Point
	for len(ps) < (w+1)*(h+1)-4 {
		p := pt(d.below(w+3), d.below(h+3))
		code := api.OK
		switch {
		case p.X > w || p.Y > h:
			code = api.Denied
		case slices.Contains(ps, p) || slices.Contains(corners(w, h), p):
			code = api.Have
		}
		if e := Point(m, s, p); e != code {
			t.Fatalf("P9.2 Point(%v) after %v: %d, want %d", p, ps, e, code)
		}
		if code == api.OK {
			ps = append(ps, p)
		}
		if !slices.Equal(m.Tris(), want(w, h, api.Inner, ps)) || !slices.Equal(s.All(), fenced(w, h, api.Inner, ps)) {
			t.Fatalf("P9.2 after %v: %v and %v", ps, m.Tris(), s.All())
		}
	}
}

func TestRows(t *testing.T) {
	type ts = []api.Tri
	m, s := square(t, 4, 4, 0)
	if e := Point(m, s, pt(2, 2)); e != api.OK {
		t.Errorf("P9.2 the middle of a square: %d", e)
	}
	if got, want := m.Tris(), (ts{tr(0, 0, 2, 2, 0, 4), tr(0, 0, 4, 0, 2, 2), tr(0, 4, 2, 2, 4, 4), tr(2, 2, 4, 0, 4, 4)}); !slices.Equal(got, want) || s.Len() != 4 {
		t.Errorf("P9.2 the middle of a square: %v, %v, want %v", got, s.All(), want)
	}
	m, s = square(t, 4, 4, api.Inner)
	if e := Point(m, s, pt(3, 3)); e != api.OK || s.Kind(pt(0, 0), pt(3, 3)) != 1 || s.Kind(pt(3, 3), pt(4, 4)) != 1 || s.Len() != 6 || m.Len() != 4 {
		t.Errorf("P9.2 on an inner wall: %d, %v, %v", e, m.Tris(), s.All())
	}
	if e := Point(m, s, pt(4, 1)); e != api.OK || s.Kind(pt(4, 0), pt(4, 1)) != 2 || s.Kind(pt(4, 4), pt(4, 1)) != 2 || s.Len() != 7 || m.Len() != 5 {
		t.Errorf("P9.2 on a border: %d, %v, %v", e, m.Tris(), s.All())
	}
	m, s = square(t, far, far, api.Border)
	for _, p := range []api.Point{pt(far-1, far-1), pt(1, 1), pt(0, far-1), pt(far, 1), pt(1, 0)} {
		if e := Point(m, s, p); e != api.OK || !flip.Good(m, s) {
			t.Errorf("P9.2 Point(%v) of all of the grid: %d", p, e)
		}
	}
	if s.Len() != 10 || s.Kind(pt(1, 1), pt(far-1, far-1)) != api.Border || m.Len() != 9 {
		t.Errorf("P9.2 all of the grid: %v, %v", s.All(), m.Tris())
	}
}

// TestRepaired is that what was bad elsewhere is repaired too.
func TestRepaired(t *testing.T) {
	m, s := square(t, 4, 4, 0)
	for _, p := range []api.Point{pt(1, 1), pt(3, 1), pt(3, 3), pt(1, 3)} {
		Point(m, s, p)
	}
	if e := m.Flip(pt(1, 1), pt(3, 3)); e != api.OK || flip.Good(m, s) {
		t.Fatalf("Flip: %d, %v", e, m.Tris())
	}
	ps := []api.Point{pt(1, 1), pt(3, 1), pt(3, 3), pt(1, 3), pt(4, 2)}
	if e := Point(m, s, pt(4, 2)); e != api.OK || !slices.Equal(m.Tris(), want(4, 4, 0, ps)) {
		t.Errorf("P9.2 then 8's Repair: %d, %v", e, m.Tris())
	}
}

// TestErrors is of what is refused: nothing changes by it.
func TestErrors(t *testing.T) {
	m, s := square(t, 4, 4, api.Inner)
	Point(m, s, pt(2, 1))
	tris, row := m.Tris(), s.All()
	try := func(what string, m *mesh.Mesh, s *walls.Set, p api.Point, want api.Errno) {
		t.Helper()
		if e := Point(m, s, p); e != want {
			t.Errorf("P9.2 Point(%v), %s: %d, want %d", p, what, e, want)
		}
	}
	for _, p := range append(corners(4, 4), pt(2, 1)) {
		try("a corner", m, s, p, api.Have)
		try("a corner, no mesh", nil, s, p, api.None)
		try("a corner, no walls", m, nil, p, api.None)
	}
	for _, p := range append(strangers(), pt(5, 2), pt(2, 5), pt(far, far)) {
		try("without", m, s, p, api.Denied)
		try("without, no mesh", nil, s, p, api.None)
		try("without, no walls", m, nil, p, api.None)
		try("without, neither", nil, nil, p, api.None)
	}
	try("inside, no mesh", nil, s, pt(3, 3), api.None)
	try("inside, no walls", m, nil, pt(3, 3), api.None)
	try("a mesh of nothing", &mesh.Mesh{}, s, pt(3, 3), api.Denied)
	if !slices.Equal(m.Tris(), tris) || !slices.Equal(s.All(), row) {
		t.Errorf("P9.2 what is refused changes %v and %v: %v and %v", tris, row, m.Tris(), s.All())
	}
}

// TestHeaps is that the call ends for meshes of whatever triangles, and walls
// wherever, that it tells the same twice, and that an error changes nothing.
func TestHeaps(t *testing.T) {
	d := dice(999)
	count := map[bool]int{}
	for range 500 {
		var l []api.Tri
		for range 1 + d.below(12) {
			u, ok := tri.Make(pt(d.below(5), d.below(5)), pt(d.below(5), d.below(5)), pt(d.below(5), d.below(5)))
			if _, e := mesh.New(append(l[:len(l):len(l)], u)); ok && e == api.OK {
				l = append(l, u)
			}
		}
		var row []api.Wall
		for range d.below(4) {
			v, ok := walls.Make(pt(d.below(5), d.below(5)), pt(d.below(5), d.below(5)), api.Inner+d.below(2))
			if _, e := walls.New(append(row[:len(row):len(row)], v)); ok && e == api.OK {
				row = append(row, v)
			}
		}
		p := pt(d.below(5), d.below(5))
		m, _ := mesh.New(l)
		s, _ := walls.New(row)
		tris, all := m.Tris(), s.All()
		e := Point(m, s, p)
		count[e == api.OK]++
		if e != api.OK && (!slices.Equal(m.Tris(), tris) || !slices.Equal(s.All(), all)) {
			t.Fatalf("P9.2 Point(%v) of %v: %d, and changes it", p, l, e)
		}
		slices.Reverse(l)
		n, _ := mesh.New(l)
		again, _ := walls.New(row)
		if f := Point(n, again, p); f != e || !slices.Equal(n.Tris(), m.Tris()) || !slices.Equal(again.All(), s.All()) {
			t.Fatalf("P9.2 Point(%v) of %v: %d, then %d", p, l, e, f)
		}
	}
	if count[true] < 30 || count[false] < 50 {
		t.Errorf("heaps: %v", count)
	}
}
