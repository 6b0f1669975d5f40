package grow

import (
	"slices"
	"testing"

	"hectare/api"
	"hectare/exact"
	"hectare/flip"
	"hectare/mesh"
	"hectare/tri"
	"hectare/walls"
)

// place is triangles and walls that Points come to.
type place struct {
	tris []api.Tri
	row  []api.Wall
}

// moved is the same place, each point a way to the right and upward.
func (x place) moved(right, up int) place {
	by := func(p api.Point) api.Point { return pt(p.X+right, p.Y+up) }
	var y place
	for _, u := range x.tris {
		y.tris = append(y.tris, api.Tri{A: by(u.A), B: by(u.B), C: by(u.C)})
	}
	for _, v := range x.row {
		y.row = append(y.row, api.Wall{A: by(v.A), B: by(v.B), Kind: v.Kind})
	}
	return y
}

// laid is a mesh and a Set of a place.
func (x place) laid(t *testing.T) (*mesh.Mesh, *walls.Set) {
	t.Helper()
	m, e := mesh.New(x.tris)
	s, f := walls.New(x.row)
	if e != api.OK || f != api.OK {
		t.Fatalf("laid: %d, %d: %v", e, f, x)
	}
	return m, s
}

// after is what comes of a place by points that all come.
func (x place) after(t *testing.T, ps []api.Point) place {
	t.Helper()
	m, s := x.laid(t)
	for _, p := range ps {
		if e := Point(m, s, p); e != api.OK {
			t.Fatalf("P9.2 Point(%v) of %v: %d", p, x, e)
		}
	}
	if !flip.Good(m, s) {
		t.Fatalf("P9.2 %v then %v: bad edges %v", x, ps, flip.Bad(m, s))
	}
	return place{m.Tris(), s.All()}
}

func (x place) same(y place) bool {
	return slices.Equal(x.tris, y.tris) && slices.Equal(x.row, y.row)
}

// edges is all edges of a place, each once, as walls of no kind.
func (x place) edges() []api.Wall {
	var l []api.Wall
	for _, u := range x.tris {
		for i := range 3 {
			a, b := tri.Edge(u, i)
			if exact.Cmp(b, a) < 0 {
				a, b = b, a
			}
			if v := (api.Wall{A: a, B: b}); !slices.Contains(l, v) {
				l = append(l, v)
			}
		}
	}
	return l
}

// walled is the same place with just some of its edges as walls, of either kind.
func (d *dice) walled(x place, oneIn int) place {
	y := place{tris: x.tris}
	for _, v := range x.edges() {
		if d.below(oneIn) == 0 {
			v.Kind = api.Inner + d.below(2)
			y.row = append(y.row, v)
		}
	}
	return y
}

// cutAt is some walls, each cut at those of some points that are on it.
func cutAt(row []api.Wall, ps []api.Point) []api.Wall {
	var l []api.Wall
	for _, v := range row {
		stops := []api.Point{v.A, v.B}
		for _, p := range ps {
			if exact.On(p, v.A, v.B) && p != v.A && p != v.B {
				stops = append(stops, p)
			}
		}
		slices.SortFunc(stops, exact.Cmp)
		for i := range len(stops) - 1 {
			l = append(l, api.Wall{A: stops[i], B: stops[i+1], Kind: v.Kind})
		}
	}
	slices.SortFunc(l, walls.Cmp)
	return l
}

// covers tells whether triangles cover a square, each place once: their areas make up
// its area, and each edge that is not of its rim has one of them on both sides.
func covers(l []api.Tri, w, h int) bool {
	type way struct{ a, b api.Point }
	left := map[way]int{}
	area := 0
	for _, u := range l {
		area += tri.Twice(u)
		for i := range 3 {
			a, b := tri.Edge(u, i)
			left[way{a, b}]++
		}
	}
	for e, n := range left {
		rim := e.a.X == e.b.X && (e.a.X == 0 || e.a.X == w) || e.a.Y == e.b.Y && (e.a.Y == 0 || e.a.Y == h)
		if back := left[way{e.b, e.a}]; n != 1 || back > 1 || (back == 0) != rim {
			return false
		}
	}
	return area == 2*w*h
}

// TestWalled is of points that come where some edges are walls, of either kind, and
// others, of the rim too, are none: in whatever order these points come, it is the same.
func TestWalled(t *testing.T) {
	d := dice(9999)
	count := map[string]int{}
	for i := range 120 {
		w, h := 1+d.below(9), 1+d.below(9)
		ps := d.points(w, h, d.below(20))
		first := d.below(len(ps) + 1)
		m, s := square(t, w, h, 0)
		for _, p := range ps[:first] {
			Point(m, s, p)
		}
		x := d.walled(place{tris: m.Tris()}, 1+i%5)
		if i%8 == 0 {
			x.row = nil
		}
		late := ps[first:]
		y := x.after(t, late)
		if !covers(y.tris, w, h) {
			t.Fatalf("P9.3 %v then %v: %v", x, late, y.tris)
		}
		if want := cutAt(x.row, late); !slices.Equal(y.row, want) {
			t.Fatalf("P9.2 %v then %v: walls %v, want %v", x, late, y.row, want)
		}
		for range 3 {
			if z := x.after(t, d.mix(late)); !z.same(y) {
				t.Fatalf("P9.3 %v then %v: %v, then %v", x, late, y, z)
			}
		}
		for _, v := range y.row {
			count[[]string{"", "inner", "border"}[v.Kind]]++
		}
		count["cut"] += len(y.row) - len(x.row)
		count["corners"] += len(ps)
	}
	if count["inner"] < 200 || count["border"] < 200 || count["cut"] < 50 || count["corners"] < 700 {
		t.Errorf("too few of some: %v", count)
	}
}

// TestElsewhere is of squares that do not begin at the grid's least point, up to its
// greatest one: all is as it is there, but moved.
func TestElsewhere(t *testing.T) {
	d := dice(99999)
	for i := range 60 {
		w, h := 1+d.below(9), 1+d.below(9)
		m, _ := square(t, w, h, 0)
		x := d.walled(place{tris: m.Tris()}, 1+i%3)
		ps := d.points(w, h, d.below(12))
		want := x.after(t, ps)
		for _, to := range []api.Point{pt(3, 0), pt(0, 5), pt(far/2, 7), pt(far-w, far-h)} {
			var there []api.Point
			for _, p := range ps {
				there = append(there, pt(p.X+to.X, p.Y+to.Y))
			}
			if got := x.moved(to.X, to.Y).after(t, there); !got.same(want.moved(to.X, to.Y)) {
				t.Fatalf("P9.2 %v, moved by %v, then %v: %v, want %v", x, to, ps, got, want)
			}
			m, s := x.moved(to.X, to.Y).laid(t)
			for _, p := range []api.Point{pt(to.X-1, to.Y), pt(to.X, to.Y-1), pt(to.X+w+1, to.Y+h), pt(to.X+w, to.Y+h+1)} {
				if e := Point(m, s, p); e != api.Denied {
					t.Fatalf("P9.2 Point(%v) of a square from %v on: %d", p, to, e)
				}
			}
		}
	}
}

// TestOneMesh is that a point changes the mesh and the Set that it came to, and no others
// of the same triangles and walls.
func TestOneMesh(t *testing.T) {
	m, s := square(t, 4, 4, api.Inner)
	n, u := square(t, 4, 4, api.Inner)
	tris, row := n.Tris(), u.All()
	was, all := m.Tris(), s.All()
	if e := Point(m, s, pt(2, 2)); e != api.OK || m.Len() != 4 || s.Len() != 6 {
		t.Fatalf("P9.2 Point: %d, %v, %v", e, m.Tris(), s.All())
	}
	if !slices.Equal(n.Tris(), tris) || !slices.Equal(u.All(), row) {
		t.Errorf("P9.2 another mesh changed: %v, %v", n.Tris(), u.All())
	}
	if !slices.Equal(was, tris) || !slices.Equal(all, row) {
		t.Errorf("P9.2 what was answered ahead changed: %v, %v", was, all)
	}
}
