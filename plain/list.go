package plain

import (
	"slices"

	"hectare/api"
)

// List is some triangles.
type List []api.Tri

// Told is the triangle of three points, as it is told; false of three on one line.
func Told(a, b, c api.Point) (api.Tri, bool) {
	if Twice(a, b, c) < 0 {
		b, c = c, b
	}
	for Order(b, a) < 0 || Order(c, a) < 0 {
		a, b, c = b, c, a
	}
	return api.Tri{A: a, B: b, C: c}, Twice(a, b, c) != 0
}

// Sides is the edges of a triangle, each as it goes round.
func Sides(t api.Tri) [3][2]api.Point {
	return [3][2]api.Point{{t.A, t.B}, {t.B, t.C}, {t.C, t.A}}
}

// Points is all corners, rising.
func (l List) Points() []api.Point {
	var ps []api.Point
	for _, t := range l {
		ps = append(ps, t.A, t.B, t.C)
	}
	slices.SortFunc(ps, Order)
	return slices.Compact(ps)
}

// Edges is all lines, each with how many triangles it is an edge of.
func (l List) Edges() map[Line]int {
	es := map[Line]int{}
	for _, t := range l {
		for _, v := range Sides(t) {
			es[Between(v[0], v[1])]++
		}
	}
	return es
}

// Area is twice the area.
func (l List) Area() int {
	n := 0
	for _, t := range l {
		n += Twice(t.A, t.B, t.C)
	}
	return n
}

// Cut is one way to cut what some points cover, with some walls as edges: these first,
// then whatever crosses nothing that is there.
func Cut(ps []api.Point, row []api.Wall) List {
	var es []Line
	for _, v := range row {
		es = append(es, Between(v.A, v.B))
	}
	for i, a := range ps {
		for _, b := range ps[i+1:] {
			e := Between(a, b)
			if len(Stops(ps, a, b)) == 2 && !slices.ContainsFunc(es, func(f Line) bool { return Meet(e, f) }) {
				es = append(es, e)
			}
		}
	}
	var l List
	for i, e := range es {
		for j, f := range es[:i] {
			for _, g := range es[:j] {
				if t, ok := closed(e, f, g); ok && bare(t, ps) {
					l = append(l, t)
				}
			}
		}
	}
	return l
}

// closed is the triangle of three lines, if they are one's edges.
func closed(e, f, g Line) (api.Tri, bool) {
	ps := []api.Point{e.A, e.B, f.A, f.B, g.A, g.B}
	slices.SortFunc(ps, Order)
	if ps[0] != ps[1] || ps[2] != ps[3] || ps[4] != ps[5] {
		return api.Tri{}, false
	}
	return Told(ps[0], ps[2], ps[4])
}

// bare tells whether no point but its corners is in a triangle, or on its edges.
func bare(t api.Tri, ps []api.Point) bool {
	return !slices.ContainsFunc(ps, func(p api.Point) bool {
		return p != t.A && p != t.B && p != t.C && Twice(t.A, t.B, p) >= 0 && Twice(t.B, t.C, p) >= 0 && Twice(t.C, t.A, p) >= 0
	})
}
