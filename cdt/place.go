package cdt

import (
	"cmp"
	"slices"

	"hectare/api"
	"hectare/exact"
	"hectare/tri"
)

// at is the triangles that have a point, but not all of those with a corner there. They
// are reached from another triangle, or, if that is not there (any more), from the frame.
func (c *CDT) at(from api.Tri, p api.Point) []api.Tri {
	if !c.m.Has(from) {
		from = c.first()
	}
	l := through(c.m, from, nearest(from, p), p)
	if len(l) == 0 {
		return nil
	}
	t := l[len(l)-1]
	l = []api.Tri{t}
	for i := range 3 {
		a, b := tri.Edge(t, i)
		if u, ok := c.m.Across(t, i); ok && exact.On(p, a, b) {
			l = append(l, u)
		}
	}
	return l
}

// trail is the triangles that the way from a corner to another one goes through; of one
// that is an edge, those beside it. The first corner is reached as in at.
func (c *CDT) trail(from api.Tri, a, b api.Point) []api.Tri {
	if l := c.beside(a, b); len(l) > 0 {
		return l
	}
	at := c.at(from, a)
	if len(at) == 0 || !cornered(at[0], a) {
		return nil
	}
	return through(c.m, at[0], a, b)
}

// beside is the triangles that have an edge.
func (c *CDT) beside(a, b api.Point) []api.Tri {
	var l []api.Tri
	if t, ok := c.m.Left(a, b); ok {
		l = append(l, t)
	}
	if t, ok := c.m.Left(b, a); ok {
		l = append(l, t)
	}
	return l
}

// near is a triangle that has an edge.
func (c *CDT) near(a, b api.Point) api.Tri {
	t, ok := c.m.Left(a, b)
	if !ok {
		t, _ = c.m.Left(b, a)
	}
	return t
}

// first is a triangle at the frame: walls end at its least corner, and are edges.
func (c *CDT) first() api.Tri {
	l := c.s.At(api.Point{})
	if len(l) == 0 {
		return api.Tri{}
	}
	return c.near(l[0].A, l[0].B)
}

// nearest is the corner of a triangle that is nearest to a point.
func nearest(t api.Tri, p api.Point) api.Point {
	return slices.MinFunc([]api.Point{t.A, t.B, t.C}, func(a, b api.Point) int {
		return cmp.Compare(apart(a, p), apart(b, p))
	})
}

// apart is how far two points are from each other, times itself.
func apart(p, q api.Point) int {
	x, y := q.X-p.X, q.Y-p.Y
	return x*x + y*y
}

// cornered tells whether a triangle has a corner at a point.
func cornered(t api.Tri, p api.Point) bool {
	return t.A == p || t.B == p || t.C == p
}
