package prune

import (
	"slices"

	"hectare/api"
	"hectare/exact"
	"hectare/mesh"
	"hectare/tri"
)

// hole is what is still to be filled around a point that goes.
type hole struct {
	p api.Point
	// rim is its corners, round to the left. All of it is seen from p, and from each
	// corner it is no more than half a turn to the next one.
	rim []api.Point
	// halves is none, or the two walls at p that become one, and so an edge.
	halves []api.Wall
}

// fill is triangles that make up a star without its middle; false, where the star does
// not go around it just once.
func fill(m *mesh.Mesh, star []api.Tri, p api.Point, halves []api.Wall) ([]api.Tri, bool) {
	h := hole{p, around(m, star[0], p), halves}
	if len(h.rim) < len(star) {
		return nil, false
	}
	var l []api.Tri
	for len(h.rim) > 3 {
		t, ok := h.trim()
		if !ok {
			return nil, false
		}
		l = append(l, t)
	}
	t, _ := tri.Make(h.rim[0], h.rim[1], h.rim[2])
	return append(l, t), true
}

// around is the corners around a closed one, round to the left, from a triangle on.
func around(m *mesh.Mesh, first api.Tri, p api.Point) []api.Point {
	var l []api.Point
	for t := first; len(l) == 0 || t != first; {
		q := next(t, p)
		l = append(l, q)
		t, _ = m.Left(p, next(t, q))
	}
	return l
}

// next is the corner of a triangle that follows another one.
func next(t api.Tri, p api.Point) api.Point {
	switch p {
	case t.A:
		return t.B
	case t.B:
		return t.C
	}
	return t.A
}

// trim cuts an ear off the rim. Of four corners and more there is one: of any triangles
// that fill the hole, with the wall as an edge, at least two have two edges of the rim,
// and p can't be in both of these, or on the rim at both.
func (h *hole) trim() (api.Tri, bool) {
	n := len(h.rim)
	for i, b := range h.rim {
		a, c := h.rim[(i+n-1)%n], h.rim[(i+1)%n]
		if h.ear(a, b, c) {
			h.rim = slices.Delete(h.rim, i, i+1)
			return tri.Make(a, b, c)
		}
	}
	return api.Tri{}, false
}

// ear tells whether the triangle of three corners side by side can be cut off, so that
// the rim stays as it has to be. It is enough that p is beyond the new edge, or on it: as
// seen from there, no other corner stands between the first one and the last.
func (h *hole) ear(a, b, c api.Point) bool {
	return exact.Orient(a, b, c) > 0 && exact.Orient(h.p, a, c) >= 0 && !h.held(b)
}

// held tells whether one of the halves ends at a corner.
func (h *hole) held(q api.Point) bool {
	return slices.ContainsFunc(h.halves, func(w api.Wall) bool { return w.A == q || w.B == q })
}
