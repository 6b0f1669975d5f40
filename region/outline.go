package region

import (
	"cmp"
	"maps"
	"slices"

	"hectare/api"
	"hectare/exact"
	"hectare/tri"
)

// piece is a straight piece of an outline. What it is an outline of lies left of it.
type piece struct {
	from, to api.Point
	heading  api.Point // the way to the next point of the grid
}

// square is what the regions cover, from (0,0) on.
type square struct {
	w, h int
}

// covered is the square of some triangles.
func covered(parts [][]api.Tri) square {
	var s square
	for _, part := range parts {
		for _, t := range part {
			s = square{max(s.w, t.A.X, t.B.X, t.C.X), max(s.h, t.A.Y, t.B.Y, t.C.Y)}
		}
	}
	return s
}

// outline is what lies around some triangles, in pieces as long as they are straight, in order:
// so an area has but one, however it is cut. What does not reach into the square is left out,
// also along its right and its upper side, where more may come to be covered: without that, it is
// still another one for each other area within.
func (s square) outline(l []api.Tri) []piece {
	rim := map[[2]api.Point]struct{}{}
	for _, t := range l {
		for i := range 3 {
			a, b := tri.Edge(t, i)
			if _, both := rim[[2]api.Point{b, a}]; both {
				delete(rim, [2]api.Point{b, a})
			} else {
				rim[[2]api.Point{a, b}] = struct{}{}
			}
		}
	}
	var o []piece
	for e := range maps.Keys(rim) {
		o = append(o, piece{e[0], e[1], heading(e[0], e[1])})
	}
	slices.SortFunc(o, inLine)
	return slices.DeleteFunc(joined(o), func(v piece) bool { return !s.reached(v) })
}

// joined is some pieces, each as long as it is straight.
func joined(o []piece) []piece {
	var l []piece
	for _, v := range o {
		if n := len(l); n > 0 && l[n-1].to == v.from && l[n-1].heading == v.heading {
			l[n-1].to = v.to
		} else {
			l = append(l, v)
		}
	}
	return l
}

// inLine compares two pieces, by where they head for, by their lines, and along these.
func inLine(v, w piece) int {
	d := v.heading
	return cmp.Or(
		exact.Cmp(d, w.heading),
		cmp.Compare(d.X*v.from.Y-d.Y*v.from.X, d.X*w.from.Y-d.Y*w.from.X),
		cmp.Compare(d.X*v.from.X+d.Y*v.from.Y, d.X*w.from.X+d.Y*w.from.Y),
	)
}

// heading is the way from one point to another, as far as to the next point of the grid.
func heading(a, b api.Point) api.Point {
	x, y := b.X-a.X, b.Y-a.Y
	n, rest := max(x, -x), max(y, -y)
	for rest > 0 {
		n, rest = rest, n%rest
	}
	return api.Point{X: x / n, Y: y / n}
}

// reached tells whether a piece has a point left of the square's right side and below its upper
// one.
func (s square) reached(v piece) bool {
	a, b := v.from, v.to
	switch {
	case a.X < s.w && a.Y < s.h || b.X < s.w && b.Y < s.h:
		return true
	case a.X >= s.w && b.X >= s.w || a.Y >= s.h && b.Y >= s.h:
		return false
	case a.X >= s.w:
		a, b = b, a
	}
	// From above to the right of it: the corner is on one side of the way, or on the other.
	return exact.Orient(a, b, api.Point{X: s.w, Y: s.h}) > 0
}

// same tells whether a second outline is the first one within the square.
func (s square) same(o, p []piece) bool {
	return slices.EqualFunc(o, p, func(v, w piece) bool {
		return s.meet(v.from, w.from, w) && s.meet(v.to, w.to, w) && v.heading == w.heading
	})
}

// meet tells whether a piece ends at a point, or leaves the square there.
func (s square) meet(p, end api.Point, v piece) bool {
	return p == end || (p.X == s.w || p.Y == s.h) && exact.On(p, v.from, v.to)
}
