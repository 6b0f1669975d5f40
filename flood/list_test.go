package flood

import (
	"cmp"
	"slices"
	"testing"

	"hectare/api"
	"hectare/mesh"
	"hectare/plain"
	"hectare/walls"
)

type list = plain.List

func pt(x, y int) api.Point { return plain.Pt(x, y) }

func tr(a, b, c, d, e, f int) api.Tri { return plain.Tr(a, b, c, d, e, f) }

func wl(a, b, c, d, kind int) api.Wall { return plain.Wl(a, b, c, d, kind) }

// made is a Mesh of triangles that may be, named in another order than theirs.
func made(t *testing.T, l list) *mesh.Mesh {
	t.Helper()
	turned := slices.Clone(l)
	slices.Reverse(turned)
	m, e := mesh.New(turned)
	if e != api.OK {
		t.Fatalf("mesh.New(%v): %d", l, e)
	}
	return m
}

// fixed is a Set of walls that may be.
func fixed(t *testing.T, row []api.Wall) *walls.Set {
	t.Helper()
	s, e := walls.New(row)
	if e != api.OK {
		t.Fatalf("walls.New(%v): %d", row, e)
	}
	return s
}

// ordered is some triangles, by their corners.
func ordered(l list) list {
	l = slices.Clone(l)
	slices.SortFunc(l, func(t, u api.Tri) int {
		return cmp.Or(plain.Order(t.A, u.A), plain.Order(t.B, u.B), plain.Order(t.C, u.C))
	})
	return l
}

// parting tells whether a wall of a row is on a line, of a Kind of kind or more.
func parting(row []api.Wall, on plain.Line, kind int) bool {
	return slices.ContainsFunc(row, func(v api.Wall) bool { return plain.Between(v.A, v.B) == on && v.Kind >= kind })
}

// parts is what hangs together, told anew: each triangle begins with a name of its own, and
// two at an edge take the lesser one of theirs, until no two differ.
func parts(l list, row []api.Wall, kind int) [][]api.Tri {
	l = ordered(l)
	sides := map[plain.Line][]int{}
	for i, t := range l {
		for _, v := range plain.Sides(t) {
			on := plain.Between(v[0], v[1])
			sides[on] = append(sides[on], i)
		}
	}
	name := make([]int, len(l))
	for i := range name {
		name[i] = i
	}
	for again := true; again; {
		again = false
		for on, two := range sides {
			if len(two) == 2 && name[two[0]] != name[two[1]] && !parting(row, on, kind) {
				least := min(name[two[0]], name[two[1]])
				name[two[0]], name[two[1]] = least, least
				again = true
			}
		}
	}
	var all [][]api.Tri
	for first := range l {
		var part []api.Tri
		for i, t := range l {
			if name[i] == first {
				part = append(part, t)
			}
		}
		if part != nil {
			all = append(all, part)
		}
	}
	return all
}

// same tells whether two lists of parts are the same.
func same(a, b [][]api.Tri) bool {
	return slices.EqualFunc(a, b, func(p, q []api.Tri) bool { return slices.Equal(p, q) })
}
