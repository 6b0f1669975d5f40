package prune

import (
	"testing"

	"hectare/api"
	"hectare/flip"
	"hectare/mesh"
	"hectare/plain"
	"hectare/walls"
)

type list = plain.List

func pt(x, y int) api.Point { return plain.Pt(x, y) }

func tr(a, b, c, d, e, f int) api.Tri { return plain.Tr(a, b, c, d, e, f) }

func wl(a, b, c, d, kind int) api.Wall { return plain.Wl(a, b, c, d, kind) }

// only is the one mesh of some points and walls: that of whichever way to cut it.
func only(t *testing.T, ps []api.Point, row []api.Wall) list {
	t.Helper()
	m, s := made(t, plain.Cut(ps, row)), fixed(t, row)
	if e := flip.Repair(m, s); e != api.OK || !flip.Good(m, s) {
		t.Fatalf("flip.Repair of %v with %v: %d", ps, row, e)
	}
	return m.Tris()
}

// made is a Mesh of triangles that may be.
func made(t *testing.T, l list) *mesh.Mesh {
	t.Helper()
	m, e := mesh.New(l)
	if e != api.OK {
		t.Fatalf("mesh.New(%v): %d", l, e)
	}
	return m
}

// fixed is a Set of walls that may be.
func fixed(t *testing.T, l []api.Wall) *walls.Set {
	t.Helper()
	s, e := walls.New(l)
	if e != api.OK {
		t.Fatalf("walls.New(%v): %d", l, e)
	}
	return s
}
