package fence

import (
	"slices"
	"testing"

	"hectare/api"
	"hectare/flip"
	"hectare/mesh"
	"hectare/walls"
)

// list is some triangles. What is asked of it, and of points and walls here, is told
// anew, without the packages that the program asks.
type list []api.Tri

// line is a segment, the lesser end first.
type line struct {
	a, b api.Point
}

const far = api.Grid - 1

func pt(x, y int) api.Point { return api.Point{X: x, Y: y} }

func tr(a, b, c, d, e, f int) api.Tri { return api.Tri{A: pt(a, b), B: pt(c, d), C: pt(e, f)} }

func wl(a, b, c, d, kind int) api.Wall { return api.Wall{A: pt(a, b), B: pt(c, d), Kind: kind} }

func before(p, q api.Point) bool {
	return p.X < q.X || p.X == q.X && p.Y < q.Y
}

// order is that of points: the lesser one first.
func order(p, q api.Point) int {
	switch {
	case before(p, q):
		return -1
	case before(q, p):
		return 1
	}
	return 0
}

// rising is that of walls.
func rising(v, w api.Wall) int {
	if v.A != w.A {
		return order(v.A, w.A)
	}
	return order(v.B, w.B)
}

// between is the line of two points.
func between(a, b api.Point) line {
	if before(b, a) {
		return line{b, a}
	}
	return line{a, b}
}

// twice is twice the area that lies left of the way round.
func twice(a, b, c api.Point) int {
	return (b.X-a.X)*(c.Y-a.Y) - (b.Y-a.Y)*(c.X-a.X)
}

// within tells whether a point is on a segment, and no end of it.
func within(p, a, b api.Point) bool {
	along := (p.X-a.X)*(b.X-a.X) + (p.Y-a.Y)*(b.Y-a.Y)
	whole := (b.X-a.X)*(b.X-a.X) + (b.Y-a.Y)*(b.Y-a.Y)
	return twice(a, b, p) == 0 && 0 < along && along < whole
}

// apart tells whether two points lie on one side each of a line.
func apart(p, q, a, b api.Point) bool {
	s, t := twice(a, b, p), twice(a, b, q)
	return s < 0 && t > 0 || s > 0 && t < 0
}

// meet tells whether two segments have more in common than an end of both.
func meet(v, w line) bool {
	return v == w || apart(v.a, v.b, w.a, w.b) && apart(w.a, w.b, v.a, v.b) ||
		within(v.a, w.a, w.b) || within(v.b, w.a, w.b) || within(w.a, v.a, v.b) || within(w.b, v.a, v.b)
}

// stops is the points of some that are on a segment, from its one end to the other; none,
// unless both ends are among them.
func stops(ps []api.Point, a, b api.Point) []api.Point {
	if !slices.Contains(ps, a) || !slices.Contains(ps, b) {
		return nil
	}
	l := slices.DeleteFunc(slices.Clone(ps), func(p api.Point) bool { return p != a && p != b && !within(p, a, b) })
	slices.SortFunc(l, func(p, q api.Point) int {
		away := func(p api.Point) int { return (p.X-a.X)*(b.X-a.X) + (p.Y-a.Y)*(b.Y-a.Y) }
		return away(p) - away(q)
	})
	return l
}

// clash is why a wall between two points could not be beside others.
func clash(row []api.Wall, a, b api.Point) api.Errno {
	for _, v := range row {
		if between(v.A, v.B) == between(a, b) {
			return api.Have
		}
	}
	for _, v := range row {
		if meet(between(v.A, v.B), between(a, b)) {
			return api.Cross
		}
	}
	return api.OK
}

// told is the triangle of three points, as it is told; false of three on one line.
func told(a, b, c api.Point) (api.Tri, bool) {
	if twice(a, b, c) < 0 {
		b, c = c, b
	}
	for before(b, a) || before(c, a) {
		a, b, c = b, c, a
	}
	return api.Tri{A: a, B: b, C: c}, twice(a, b, c) != 0
}

// sides is the edges of a triangle, each as it goes round.
func sides(t api.Tri) [3][2]api.Point {
	return [3][2]api.Point{{t.A, t.B}, {t.B, t.C}, {t.C, t.A}}
}

// points is all corners, rising.
func (l list) points() []api.Point {
	var ps []api.Point
	for _, t := range l {
		ps = append(ps, t.A, t.B, t.C)
	}
	slices.SortFunc(ps, order)
	return slices.Compact(ps)
}

// edges is all lines, each with how many triangles it is an edge of.
func (l list) edges() map[line]int {
	es := map[line]int{}
	for _, t := range l {
		for _, v := range sides(t) {
			es[between(v[0], v[1])]++
		}
	}
	return es
}

// area is twice the area.
func (l list) area() int {
	n := 0
	for _, t := range l {
		n += twice(t.A, t.B, t.C)
	}
	return n
}

// cut is one way to cut what some points cover, with some walls as edges: these first,
// then whatever crosses nothing that is there.
func cut(ps []api.Point, row []api.Wall) list {
	var es []line
	for _, v := range row {
		es = append(es, between(v.A, v.B))
	}
	for i, a := range ps {
		for _, b := range ps[i+1:] {
			e := between(a, b)
			if len(stops(ps, a, b)) == 2 && !slices.ContainsFunc(es, func(f line) bool { return meet(e, f) }) {
				es = append(es, e)
			}
		}
	}
	var l list
	for i, e := range es {
		for j, f := range es[:i] {
			for _, g := range es[:j] {
				if t, ok := closed(e, f, g); ok && t.bare(ps) {
					l = append(l, api.Tri(t))
				}
			}
		}
	}
	return l
}

// shape is one triangle.
type shape api.Tri

// closed is the triangle of three lines, if they are one's edges.
func closed(e, f, g line) (shape, bool) {
	ps := []api.Point{e.a, e.b, f.a, f.b, g.a, g.b}
	slices.SortFunc(ps, order)
	if ps[0] != ps[1] || ps[2] != ps[3] || ps[4] != ps[5] {
		return shape{}, false
	}
	t, ok := told(ps[0], ps[2], ps[4])
	return shape(t), ok
}

// bare tells whether no point but its corners is in a triangle, or on its edges.
func (t shape) bare(ps []api.Point) bool {
	return !slices.ContainsFunc(ps, func(p api.Point) bool {
		return p != t.A && p != t.B && p != t.C && twice(t.A, t.B, p) >= 0 && twice(t.B, t.C, p) >= 0 && twice(t.C, t.A, p) >= 0
	})
}

// only is the one mesh of some points and walls: that of whichever way to cut it.
func only(t *testing.T, ps []api.Point, row []api.Wall) list {
	t.Helper()
	m, s := made(t, cut(ps, row)), fixed(t, row)
	if e := flip.Repair(m, s); e != api.OK || !flip.Good(m, s) {
		t.Fatalf("flip.Repair of %v with %v: %d", ps, row, e)
	}
	return m.Tris()
}

// made is a Mesh of triangles that may be.
func made(t *testing.T, l list) *mesh.Mesh {
	t.Helper()
	m, e := mesh.New(l)
	if e != api.OK {
		t.Fatalf("mesh.New(%v): %d", l, e)
	}
	return m
}

// fixed is a Set of walls that may be.
func fixed(t *testing.T, l []api.Wall) *walls.Set {
	t.Helper()
	s, e := walls.New(l)
	if e != api.OK {
		t.Fatalf("walls.New(%v): %d", l, e)
	}
	return s
}

// dice is numbers that are always the same ones.
type dice uint64

func (d *dice) below(n int) int {
	*d = *d*6364136223846793005 + 1442695040888963407
	return int(uint64(*d) >> 33 % uint64(n))
}

// points is some points of a square, its corners among them, rising.
func (d *dice) points(w, h, n int) []api.Point {
	l := []api.Point{pt(0, 0), pt(0, h), pt(w, 0), pt(w, h)}
	for range n {
		l = append(l, pt(d.below(w+1), d.below(h+1)))
	}
	slices.SortFunc(l, order)
	return slices.Compact(l)
}

// stirred is a mesh after so many tries to flip an edge that is no wall: no longer a good
// one.
func (d *dice) stirred(t *testing.T, l list, row []api.Wall, tries int) list {
	t.Helper()
	m, s := made(t, l), fixed(t, row)
	now := m.Tris()
	for range tries {
		v := sides(now[d.below(len(now))])[d.below(3)]
		if s.Kind(v[0], v[1]) == 0 && m.Flip(v[0], v[1]) == api.OK {
			now = m.Tris()
		}
	}
	return now
}

// mix is some things in another order.
func mix[T any](d *dice, l []T) []T {
	l = slices.Clone(l)
	for i := range l {
		j := i + d.below(len(l)-i)
		l[i], l[j] = l[j], l[i]
	}
	return l
}
