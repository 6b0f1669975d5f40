package flip

import (
	"fmt"
	"slices"
	"testing"

	"hectare/api"
	"hectare/mesh"
	"hectare/walls"
)

// cuts is all meshes that come of one by flips of edges that are no walls: all ways to
// cut the same with the same corners and walls.
func cuts(t *testing.T, l list, s []api.Wall) []list {
	first := list(made(t, l).Tris())
	all := []list{first}
	seen := map[string]bool{fmt.Sprint(first): true}
	for i := 0; i < len(all); i++ {
		for _, e := range all[i].edges() {
			m := made(t, all[i])
			if stays(s, e[0], e[1]) || m.Flip(e[0], e[1]) != api.OK {
				continue
			}
			if next := list(m.Tris()); !seen[fmt.Sprint(next)] {
				seen[fmt.Sprint(next)] = true
				all = append(all, next)
			}
		}
	}
	return all
}

// grid is the points of a grid but for the corners of its square.
func grid(w, h int) []api.Point {
	var l []api.Point
	for x := range w + 1 {
		for y := range h + 1 {
			if (x != 0 && x != w) || (y != 0 && y != h) {
				l = append(l, pt(x, y))
			}
		}
	}
	return l
}

// chosen is the rim of a mesh, and some of its other edges, as walls.
func (d *dice) chosen(l list, oneIn int) []api.Wall {
	s := l.rim()
	for _, e := range l.edges() {
		if !stays(s, e[0], e[1]) && d.below(oneIn) == 0 {
			s = append(s, api.Wall{A: e[0], B: e[1], Kind: api.Inner + d.below(2)})
		}
	}
	return s
}

// points is some points of a square, its corners not among them.
func (d *dice) points(w, h, n int) []api.Point {
	var l []api.Point
	for range n {
		l = append(l, pt(d.below(w+1), d.below(h+1)))
	}
	return slices.DeleteFunc(l, func(p api.Point) bool { return (p.X == 0 || p.X == w) && (p.Y == 0 || p.Y == h) })
}

// hold holds one way to cut against the plain list, and repairs it: what comes of it.
func hold(t *testing.T, l list, s []api.Wall) list {
	t.Helper()
	m, set := made(t, l), fixed(t, s)
	want := l.bad(s)
	if got := Bad(m, set); !slices.Equal(got, want) {
		t.Fatalf("P8.1 Bad of %v with %v: %v, want %v", l, s, got, want)
	}
	if got := Good(m, set); got != (len(want) == 0) {
		t.Fatalf("P8.1 Good of %v with %v: %v", l, s, got)
	}
	if e := Repair(m, set); e != api.OK {
		t.Fatalf("P8.2 Repair of %v with %v: %d", l, s, e)
	}
	if !slices.Equal(set.All(), fixed(t, s).All()) {
		t.Fatalf("P8.2 Repair changed walls: %v, want %v", set.All(), s)
	}
	return list(m.Tris())
}

// TestOne is that all ways to cut one square, with one choice of walls, come to the
// same one, which is the only one of them without a bad edge.
func TestOne(t *testing.T) {
	d := dice(8)
	type start struct {
		l list
		s []api.Wall
	}
	var starts []start
	add := func(l list, oneIn ...int) {
		for _, n := range oneIn {
			starts = append(starts, start{l, d.chosen(l, n)})
		}
	}
	add(square(2, 2, grid(2, 2)...), 1000, 9, 5, 3)
	add(square(3, 2, grid(3, 2)...), 1000, 6, 4)
	add(square(far, far-1, pt(0, 1), pt(far, far-2), pt(far/2, far/2), pt(far-1, 1)), 1000, 4)
	add(square(50, 50, pt(0, 25), pt(25, 0), pt(45, 10), pt(10, 45), pt(50, 25)), 1000, 5)
	for range 40 {
		w, h := 2+d.below(8), 2+d.below(8)
		add(square(w, h, d.points(w, h, 5)...), 1000, 4)
	}
	count := map[string]int{}
	for i, x := range starts {
		all := cuts(t, x.l, x.s)
		// So many ways there are to cut these, as is known from elsewhere.
		if i == 0 && len(all) != 64 || i == 4 && len(all) != 852 {
			t.Fatalf("P8.3 %d ways to cut %v", len(all), x.l)
		}
		var want list
		for _, l := range all {
			if len(l.bad(x.s)) == 0 {
				count["good"]++
				want = l
			}
		}
		count["starts"]++
		count["cuts"] += len(all)
		for _, l := range all {
			if got := hold(t, l, x.s); !slices.Equal(got, want) {
				t.Fatalf("P8.3 Repair of %v with %v: %v, want %v", l, x.s, got, want)
			}
		}
	}
	if count["good"] != count["starts"] || count["cuts"] < 3000 {
		t.Errorf("P8.3 the ways to cut: %v", count)
	}
}

// TestWithin is that where no walls are but the rim, nobody is within the circle of any
// triangle, and each triangle of which that is so is there.
func TestWithin(t *testing.T) {
	d := dice(88)
	for range 60 {
		w, h := 1+d.below(9), 1+d.below(9)
		l := square(w, h, d.points(w, h, d.below(12))...)
		m := made(t, l)
		for range 100 {
			e := l.edges()[d.below(len(l.edges()))]
			m.Flip(e[0], e[1])
		}
		got := hold(t, m.Tris(), l.rim())
		if want := empty(l.points()); !slices.Equal(got, want) {
			t.Fatalf("P8.2 Repair of %v: %v, want %v", l, got, want)
		}
	}
}

// empty is the triangles of some points with none of these within, in order.
func empty(ps []api.Point) list {
	var l list
	for i, a := range ps {
		for j, b := range ps[:i] {
			for _, c := range ps[:j] {
				u, ok := told(a, b, c)
				if ok && !slices.ContainsFunc(ps, func(p api.Point) bool {
					return p != a && p != b && p != c && within(u.A, u.B, u.C, p)
				}) {
					l = append(l, u)
				}
			}
		}
	}
	slices.SortFunc(l, func(t, u api.Tri) int {
		for i, v := range ways(t) {
			if w := ways(u)[i]; before(v[0], w[0]) {
				return -1
			} else if v[0] != w[0] {
				return 1
			}
		}
		return 0
	})
	return l
}

// TestOrder is that bad edges may be flipped in whatever order, one by one, and that
// each flip of one may make others bad, which Repair flips too.
func TestOrder(t *testing.T) {
	d := dice(888)
	chains := 0
	for range 50 {
		l := square(9, 9, d.points(9, 9, 12)...)
		rim := l.rim()
		want := hold(t, l, rim)
		m := made(t, l)
		flips := 0
		for bad := l.bad(rim); len(bad) > 0; bad = list(m.Tris()).bad(rim) {
			w := bad[d.below(len(bad))]
			if e := m.Flip(w.B, w.A); e != api.OK {
				t.Fatalf("P8.2 Flip of a bad edge, %v of %v: %d", w, m.Tris(), e)
			}
			flips++
		}
		if flips > len(l.bad(rim)) {
			chains++
		}
		if !slices.Equal(m.Tris(), want) {
			t.Fatalf("P8.3 %v: %v, want %v", l, m.Tris(), want)
		}
	}
	if chains < 20 {
		t.Errorf("%d needed more flips than they had bad edges", chains)
	}
}

// TestHeaps is that the calls end, and tell the same twice, of meshes of whatever
// triangles, and walls wherever; what is bad is still as it is.
func TestHeaps(t *testing.T) {
	d := dice(8888)
	left := 0
	for range 400 {
		var l list
		for range 60 {
			u, ok := told(pt(d.below(4), d.below(4)), pt(d.below(4), d.below(4)), pt(d.below(4), d.below(4)))
			if _, e := mesh.New(append(l[:len(l):len(l)], u)); ok && e == api.OK {
				l = append(l, u)
			}
		}
		s := &walls.Set{}
		for range d.below(4) {
			w, _ := walls.Make(pt(d.below(4), d.below(4)), pt(d.below(4), d.below(4)), api.Inner)
			s.Add(w)
		}
		got, again := hold(t, l, s.All()), hold(t, l, s.All())
		slices.Reverse(l)
		if back := hold(t, l, s.All()); !slices.Equal(got, again) || !slices.Equal(got, back) || len(got) != len(l) {
			t.Fatalf("P8.3 Repair of %v: %v, then %v, then %v", l, got, again, back)
		}
		left += len(got.bad(s.All()))
	}
	if left == 0 {
		t.Errorf("no bad edge was left that can't be flipped")
	}
}

// TestMend is that where some triangles alone are cut badly, and what is around them is not,
// Mend of these is Repair; and that it looks for bad edges at none but those it is told.
func TestMend(t *testing.T) {
	d := dice(88888)
	changed, left := 0, 0
	for i := range 300 {
		w, h := 4+d.below(9), 4+d.below(9)
		l := square(w, h, d.points(w, h, 20)...)
		s := d.chosen(l, 2+i%9)
		m, set := made(t, l), fixed(t, s)
		if e := Repair(m, set); e != api.OK {
			t.Fatalf("P8.2 Repair: %d", e)
		}
		want := list(m.Tris())
		for range 1 + i%3 {
			es := list(m.Tris()).edges()
			if e := es[d.below(len(es))]; !stays(s, e[0], e[1]) {
				m.Flip(e[0], e[1])
			}
		}
		poor := list(m.Tris())
		var in list
		for _, u := range poor {
			if !slices.Contains(want, u) {
				in = append(in, u)
			}
		}
		if e := Mend(m, set, nil); e != api.OK || !slices.Equal(m.Tris(), poor) {
			t.Fatalf("P8.2 Mend of no triangles: %d, %v, want %v", e, m.Tris(), poor)
		}
		if e := Mend(m, set, in); e != api.OK || !slices.Equal(m.Tris(), want) {
			t.Fatalf("P8.2 Mend of %v with %v, at %v: %d, %v, want %v", poor, s, in, e, m.Tris(), want)
		}
		changed += len(in)
		left += len(s)
	}
	if changed < 300 || left < 300 {
		t.Errorf("%d triangles changed, %d walls", changed, left)
	}
	stuck := list{tr(0, 0, 4, 0, 0, 4), tr(0, 4, 4, 0, 4, 4), tr(0, 0, 9, 1, 4, 4)}
	m := made(t, stuck)
	if e := Mend(m, fixed(t, nil), append(stuck, tr(7, 7, 9, 7, 9, 9), api.Tri{})); e != api.OK || m.Len() != 3 {
		t.Errorf("P8.2 Mend of one that can't be flipped, and of others: %d, %v", e, m.Tris())
	}
}

// TestLeft is of a bad edge that can't be flipped: it is left, and others are not.
func TestLeft(t *testing.T) {
	stuck := list{tr(0, 0, 4, 0, 0, 4), tr(0, 4, 4, 0, 4, 4), tr(0, 0, 9, 1, 4, 4)}
	m := made(t, append(stuck, tr(20, 20, 24, 20, 20, 24), tr(20, 24, 24, 20, 24, 24)))
	s := fixed(t, nil)
	want := []api.Wall{in(0, 4, 4, 0), in(20, 24, 24, 20)}
	if got := Bad(m, s); !slices.Equal(got, want) {
		t.Fatalf("P8.1 Bad: %v, want %v", got, want)
	}
	if e := Repair(m, s); e != api.OK {
		t.Errorf("P8.2 Repair: %d", e)
	}
	if got := Bad(m, s); !slices.Equal(got, want[:1]) || Good(m, s) || !m.Has(stuck[0]) || !m.Has(tr(20, 20, 24, 20, 24, 24)) {
		t.Errorf("P8.2 after Repair: Bad %v, %v", got, m.Tris())
	}
}

// TestKept is that answers are new memory, and that what was answered stays as it was.
func TestKept(t *testing.T) {
	l := list{tr(0, 0, 4, 0, 0, 4), tr(0, 4, 4, 0, 4, 4), tr(4, 0, 8, 0, 4, 4), tr(4, 4, 8, 0, 8, 4)}
	m, s := made(t, l), fixed(t, []api.Wall{wl(0, 0, 0, 4, 2)})
	want := []api.Wall{in(0, 4, 4, 0), in(4, 4, 8, 0)}
	one, two := Bad(m, s), Bad(m, s)
	clear(one[:cap(one)])
	if again := Bad(m, s); !slices.Equal(two, want) || !slices.Equal(again, want) {
		t.Errorf("P8.1 Bad shares memory: %v, %v, want %v", two, again, want)
	}
	other := made(t, l)
	if e := Repair(m, s); e != api.OK || !slices.Equal(two, want) {
		t.Errorf("P8.2 an answer changes with the mesh: %d, %v", e, two)
	}
	if got := Bad(other, s); !slices.Equal(got, want) {
		t.Errorf("P8.1 another mesh, of the same triangles: %v, want %v", got, want)
	}
	if s.Len() != 1 || s.Kind(pt(0, 0), pt(0, 4)) != api.Border {
		t.Errorf("P8.2 walls: %v", s.All())
	}
}

// TestMany is of a great mesh: each place of a grid cut the wrong way, but for walls.
func TestMany(t *testing.T) {
	const n, step = 120, 1000
	var l list
	var s []api.Wall
	for x := range n {
		for y := range n {
			p, q, r, o := pt(x*step, y*step), pt((x+1)*step, y*step), pt((x+1)*step, (y+1)*step), pt(x*step, (y+1)*step)
			l = append(l, cutAlong(o, p, q, r)[0], cutAlong(q, r, o, p)[0])
			if (x+y)%9 == 0 {
				s = append(s, api.Wall{A: o, B: q, Kind: api.Inner})
			}
		}
	}
	m, set := made(t, l), fixed(t, s)
	if got := len(Bad(m, set)); got != n*n-len(s) {
		t.Errorf("P8.1 Bad of many: %d", got)
	}
	if e := Repair(m, set); e != api.OK || !Good(m, set) {
		t.Errorf("P8.2 Repair of many: %d", e)
	}
	for x := range n {
		for y := range n {
			_, good := m.Left(pt(x*step, y*step), pt((x+1)*step, (y+1)*step))
			if good == ((x+y)%9 == 0) {
				t.Fatalf("P8.2 Repair of many: the place %d, %d", x, y)
			}
		}
	}
}
