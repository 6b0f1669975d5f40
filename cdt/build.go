package cdt

import (
	"math/bits"
	"slices"

	"hectare/api"
	"hectare/exact"
	"hectare/fence"
	"hectare/mesh"
)

// Build is one of points and walls.
func Build(w, h int, p []api.Point, l []api.Wall) (*CDT, api.Errno) {
	c, e := New(w, h)
	if e != api.OK {
		return nil, e
	}
	if e := c.points(p); e != api.OK {
		return nil, e
	}
	if e := c.walls(l); e != api.OK {
		return nil, e
	}
	return c, api.OK
}

// points puts some points into a square that has none.
func (c *CDT) points(l []api.Point) api.Errno {
	if e := c.refusal(l); e != api.OK {
		return e
	}
	var from api.Tri
	for _, p := range spread(l) {
		if c.outermost(p) {
			continue
		}
		at := c.at(from, p)
		if e := c.put(at, p); e != api.OK {
			return e
		}
		// However the mesh is repaired, a point keeps its edges to where it came.
		from = c.near(p, at[0].A)
	}
	return api.OK
}

// refusal is what AddPoint would tell, if all of some points came as they stand in their
// list. In whatever order they come, the mesh is the same, but the first error is not.
func (c *CDT) refusal(l []api.Point) api.Errno {
	there := map[api.Point]struct{}{}
	for _, p := range l {
		_, have := there[p]
		switch {
		case c.outermost(p):
			continue
		case p.X < 0 || p.X > c.w || p.Y < 0 || p.Y > c.h:
			return api.Denied
		case have:
			return api.Have
		}
		there[p] = struct{}{}
	}
	return api.OK
}

// spread is points in rounds: first a few from all over, then more and more from between
// these, in each round from the least to the greatest. In this order none has far to go from
// the one ahead of it, and few change much of what is there, as they would in a row.
func spread(l []api.Point) []api.Point {
	// 2^64 by the golden ratio: its multiples lie evenly, in no rhythm that rows of points
	// may have. A round has about twice as many as the one ahead of it.
	const golden = 0x9E3779B97F4A7C15
	rounds := make([][]api.Point, 65)
	for i, p := range slices.SortedFunc(slices.Values(l), exact.Cmp) {
		n := bits.Len64(uint64(i) * golden)
		rounds[n] = append(rounds[n], p)
	}
	return slices.Concat(rounds...)
}

// walls puts some walls there. Each is looked for from the one ahead of it, as are points.
func (c *CDT) walls(l []api.Wall) api.Errno {
	var from api.Tri
	for _, w := range l {
		if w.Kind != 0 && c.s.Kind(w.A, w.B) == w.Kind {
			continue
		}
		trail := c.trail(from, w.A, w.B)
		if e := whole(trail, w); e != api.OK {
			return e
		}
		if e := c.lay(trail, w.A, w.B, w.Kind); e != api.OK {
			return e
		}
		from = c.near(w.A, w.B)
	}
	return api.OK
}

// whole tells what is wrong with a wall's ends, or None, if there are corners between them.
func whole(trail []api.Tri, w api.Wall) api.Errno {
	m, _ := mesh.New(trail)
	parts, e := fence.Parts(m, w.A, w.B)
	if len(parts) > 2 {
		return api.None
	}
	return e
}
