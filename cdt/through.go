package cdt

import (
	"hectare/api"
	"hectare/exact"
	"hectare/mesh"
	"hectare/tri"
)

// through is the triangles that the straight way from a corner of a triangle to a point
// goes through, in its order; where it goes along an edge, one of the two there. So the
// last one has the point. There are none, if the way leaves the mesh.
//
// It ends, whatever the mesh: each corner on the way is nearer to its end than the one
// ahead of it, and between two of them each triangle but the first is gone into from just
// one other, so that none comes again.
func through(m *mesh.Mesh, t api.Tri, a, b api.Point) []api.Tri {
	if !m.Has(t) || !exact.Valid(b) {
		return nil
	}
	var l []api.Tri
	t, ok := onward(m, t, a, b)
	for ok {
		l = append(l, t)
		if tri.Has(t, b) {
			return l
		}
		t, ok = beyond(m, t, a, b)
	}
	return nil
}

// beyond is the triangle that the way goes through behind another one: over the edge that
// goes from its right to its left, or from the last corner on it.
func beyond(m *mesh.Mesh, t api.Tri, a, b api.Point) (api.Tri, bool) {
	last := a
	for i := range 3 {
		p, q := tri.Edge(t, i)
		if exact.Orient(a, b, p) < 0 && exact.Orient(a, b, q) > 0 {
			return m.Left(q, p)
		}
		if exact.On(p, last, b) {
			last = p
		}
	}
	return onward(m, t, last, b)
}

// onward is the triangle that the way from a corner goes through first. It turns around
// the corner from a triangle to the left, which ends, as some triangle is ahead if they
// stand all around; and if they do not, to the right.
func onward(m *mesh.Mesh, t api.Tri, a, b api.Point) (api.Tri, bool) {
	for u, ok := t, true; ok; {
		right, left := others(u, a)
		if between(a, right, left, b) {
			return u, true
		}
		u, ok = m.Left(a, left)
	}
	right, left := others(t, a)
	for u, ok := m.Left(right, a); ok; u, ok = m.Left(right, a) {
		if right, left = others(u, a); between(a, right, left, b) {
			return u, true
		}
	}
	return api.Tri{}, false
}

// between tells whether the way from a to b begins between the ways to two corners, less
// than half a turn from each other, or along one of these.
func between(a, right, left, b api.Point) bool {
	return exact.Orient(a, right, b) >= 0 && exact.Orient(a, left, b) <= 0
}

// others is the corners of a triangle that come after another one, as it goes round.
func others(t api.Tri, a api.Point) (right, left api.Point) {
	switch a {
	case t.A:
		return t.B, t.C
	case t.B:
		return t.C, t.A
	}
	return t.A, t.B
}
