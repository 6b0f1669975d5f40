package fence

import (
	"cmp"
	"slices"

	"hectare/api"
	"hectare/exact"
	"hectare/mesh"
	"hectare/tri"
	"hectare/walk"
)

// way is one from a corner to another, with no corner between them.
type way struct {
	a, b api.Point
}

// edge is one that crosses a way, from the left of it to the right.
type edge struct {
	left, right api.Point
}

// clear flips away the edges that cross the way, the greatest one first, so that it is an
// edge itself. That one can be flipped: no other one begins farther from the way, and
// none that begins there ends farther from it, so that its two triangles make up a
// quadrilateral that is convex at both of its ends. What comes of it is less, if it
// crosses the way at all: so this ends.
func (w way) clear(m *mesh.Mesh) {
	l := w.crossed(m)
	slices.SortFunc(l, w.cmp)
	for len(l) > 0 {
		last := len(l) - 1
		e := l[last]
		l = l[:last]
		p, q, ok := flipped(m, e)
		f, crosses := w.crossing(p, q)
		if !ok || crosses && w.cmp(f, e) >= 0 {
			// Just where not each place is covered once.
			return
		}
		if crosses {
			i, _ := slices.BinarySearchFunc(l, f, w.cmp)
			l = slices.Insert(l, i, f)
		}
	}
}

// crossed is the edges that cross the way.
func (w way) crossed(m *mesh.Mesh) []edge {
	var l []edge
	for _, t := range walk.Trail(m, w.a, w.b) {
		for i := range 3 {
			p, q := tri.Edge(t, i)
			// Just one of the two triangles at it goes along it from left to right.
			if e, crosses := w.crossing(p, q); crosses && e.left == p {
				l = append(l, e)
			}
		}
	}
	return l
}

// crossing is the edge between two points, if it crosses the way.
func (w way) crossing(p, q api.Point) (edge, bool) {
	if exact.Meet(w.a, w.b, p, q) != 1 {
		return edge{}, false
	}
	if exact.Orient(w.a, w.b, p) < 0 {
		p, q = q, p
	}
	return edge{p, q}, true
}

// cmp compares two edges that cross the way: by how far from it they begin, then by how
// far from it they end.
func (w way) cmp(e, f edge) int {
	return cmp.Or(w.farther(e.left, f.left), w.farther(e.right, f.right))
}

// farther compares how far from the way two points of one side are. Of all that are as
// far, and so on one line, the greatest has none of the others on one of its sides.
func (w way) farther(p, q api.Point) int {
	return cmp.Or(cmp.Compare(w.distance(p), w.distance(q)), exact.Cmp(p, q))
}

// distance is how far a point is from the way, times the way's length: a whole number.
func (w way) distance(p api.Point) int {
	t, _ := tri.Make(w.a, w.b, p)
	return tri.Twice(t)
}

// flipped flips an edge: the ends of the one that comes, and whether it could be.
func flipped(m *mesh.Mesh, e edge) (p, q api.Point, ok bool) {
	t, _ := m.Left(e.left, e.right)
	u, _ := m.Left(e.right, e.left)
	p, q = mesh.Apex(t, e.left, e.right), mesh.Apex(u, e.left, e.right)
	return p, q, m.Flip(e.left, e.right) == api.OK
}
