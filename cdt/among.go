package cdt

import (
	"slices"

	"hectare/api"
	"hectare/flip"
	"hectare/mesh"
	"hectare/tri"
	"hectare/walls"
)

// among changes some triangles and the walls at their edges as if there were no others.
// All else is good as it is: so bad edges are looked for only around what comes.
func (c *CDT) among(out []api.Tri, change func(m *mesh.Mesh, s *walls.Set) api.Errno) api.Errno {
	m, e := mesh.New(out)
	if e != api.OK {
		return e
	}
	row := c.edging(out)
	s, e := walls.New(row)
	if e != api.OK {
		return e
	}
	if e := change(m, s); e != api.OK {
		return e
	}
	in := m.Tris()
	if e := c.m.Replace(out, in); e != api.OK {
		return e
	}
	c.s.Exchange(row, s.All())
	return flip.Mend(c.m, c.s, in)
}

// edging is the walls that are edges of some triangles.
func (c *CDT) edging(l []api.Tri) []api.Wall {
	var row []api.Wall
	for _, t := range l {
		for i := range 3 {
			a, b := tri.Edge(t, i)
			if w, ok := walls.Make(a, b, c.s.Kind(a, b)); ok {
				row = append(row, w)
			}
		}
	}
	// An edge between two of the triangles was told twice.
	slices.SortFunc(row, walls.Cmp)
	return slices.Compact(row)
}
