// Package plain tells of points, lines and triangles anew, slowly and in plain ways, so
// that tests can hold the layers against it. It calls none of them, and none calls it.
package plain

import (
	"cmp"
	"math"
	"slices"

	"hectare/api"
)

// Far is the greatest coordinate.
const Far = api.Grid - 1

// Line is a segment, the lesser end first.
type Line struct {
	A, B api.Point
}

// Pt is a point.
func Pt(x, y int) api.Point { return api.Point{X: x, Y: y} }

// Tr is a triangle.
func Tr(a, b, c, d, e, f int) api.Tri { return api.Tri{A: Pt(a, b), B: Pt(c, d), C: Pt(e, f)} }

// Wl is a wall.
func Wl(a, b, c, d, kind int) api.Wall { return api.Wall{A: Pt(a, b), B: Pt(c, d), Kind: kind} }

// Strangers is points that are not Valid.
func Strangers() []api.Point {
	return []api.Point{
		Pt(-1, 2), Pt(2, -1), Pt(Far+1, 2), Pt(2, Far+1), Pt(-1, -1), Pt(Far+1, Far+1),
		Pt(math.MinInt, 2), Pt(2, math.MinInt), Pt(math.MaxInt, math.MaxInt), Pt(2+1<<32, 2),
	}
}

// Order is that of points: the lesser one first.
func Order(p, q api.Point) int {
	return cmp.Or(cmp.Compare(p.X, q.X), cmp.Compare(p.Y, q.Y))
}

// Rising is the order of walls between different points.
func Rising(v, w api.Wall) int {
	return cmp.Or(Order(v.A, w.A), Order(v.B, w.B))
}

// Between is the line of two points.
func Between(a, b api.Point) Line {
	if Order(b, a) < 0 {
		return Line{b, a}
	}
	return Line{a, b}
}

// Twice is twice the area that lies left of the way round.
func Twice(a, b, c api.Point) int {
	return (b.X-a.X)*(c.Y-a.Y) - (b.Y-a.Y)*(c.X-a.X)
}

// Along is how far on the way from a to b a point is, times the way's length.
func Along(p, a, b api.Point) int {
	return (p.X-a.X)*(b.X-a.X) + (p.Y-a.Y)*(b.Y-a.Y)
}

// Within tells whether a point is on a segment, and no end of it.
func Within(p, a, b api.Point) bool {
	return Twice(a, b, p) == 0 && 0 < Along(p, a, b) && Along(p, a, b) < Along(b, a, b)
}

// Apart tells whether two points lie on one side each of a line.
func Apart(p, q, a, b api.Point) bool {
	s, t := Twice(a, b, p), Twice(a, b, q)
	return s < 0 && t > 0 || s > 0 && t < 0
}

// Meet tells whether two lines have more in common than an end of both.
func Meet(v, w Line) bool {
	return v == w || Apart(v.A, v.B, w.A, w.B) && Apart(w.A, w.B, v.A, v.B) ||
		Within(v.A, w.A, w.B) || Within(v.B, w.A, w.B) || Within(w.A, v.A, v.B) || Within(w.B, v.A, v.B)
}

// Clash is why a wall between two points could not be beside others.
func Clash(row []api.Wall, a, b api.Point) api.Errno {
	e := Between(a, b)
	if slices.ContainsFunc(row, func(v api.Wall) bool { return Between(v.A, v.B) == e }) {
		return api.Have
	}
	if slices.ContainsFunc(row, func(v api.Wall) bool { return Meet(Between(v.A, v.B), e) }) {
		return api.Cross
	}
	return api.OK
}

// Stops is the points of some that are on a segment, from its one end to the other; none,
// unless both ends are among them.
func Stops(ps []api.Point, a, b api.Point) []api.Point {
	if !slices.Contains(ps, a) || !slices.Contains(ps, b) {
		return nil
	}
	l := slices.DeleteFunc(slices.Clone(ps), func(p api.Point) bool { return p != a && p != b && !Within(p, a, b) })
	slices.SortFunc(l, func(p, q api.Point) int { return Along(p, a, b) - Along(q, a, b) })
	return l
}

// Without is some of a list, but one.
func Without[T comparable](l []T, x T) []T {
	return slices.DeleteFunc(slices.Clone(l), func(y T) bool { return y == x })
}
