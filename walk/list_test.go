package walk

import (
	"math/big"
	"slices"

	"hectare/api"
)

// list is some triangles, to be held against a Mesh: everything is told of it anew,
// without the packages that the program asks.
type list []api.Tri

const far = api.Grid - 1

func pt(x, y int) api.Point { return api.Point{X: x, Y: y} }

func tr(a, b, c, d, e, f int) api.Tri { return api.Tri{A: pt(a, b), B: pt(c, d), C: pt(e, f)} }

func before(p, q api.Point) bool {
	return p.X < q.X || p.X == q.X && p.Y < q.Y
}

// twice is twice the area that lies left of the way round.
func twice(a, b, c api.Point) int {
	return (b.X-a.X)*(c.Y-a.Y) - (b.Y-a.Y)*(c.X-a.X)
}

// ways is the edges of a triangle, as it goes round.
func ways(t api.Tri) [3][2]api.Point {
	return [3][2]api.Point{{t.A, t.B}, {t.B, t.C}, {t.C, t.A}}
}

// told is the triangle of three points, as it is told; false of three on one line.
func told(a, b, c api.Point) (api.Tri, bool) {
	if twice(a, b, c) < 0 {
		b, c = c, b
	}
	for before(b, a) || before(c, a) {
		a, b, c = b, c, a
	}
	return api.Tri{A: a, B: b, C: c}, twice(a, b, c) != 0
}

// those is the ones that are asked for, in order.
func (l list) those(asked func(api.Tri) bool) []api.Tri {
	var some []api.Tri
	for _, t := range l {
		if asked(t) {
			some = append(some, t)
		}
	}
	slices.SortFunc(some, func(t, u api.Tri) int {
		for i, w := range ways(t) {
			if v := ways(u)[i]; before(w[0], v[0]) {
				return -1
			} else if w[0] != v[0] {
				return 1
			}
		}
		return 0
	})
	return some
}

// at is the ones with a point in them, or on their edges.
func (l list) at(p api.Point) []api.Tri {
	return l.those(func(t api.Tri) bool {
		return twice(t.A, t.B, p) >= 0 && twice(t.B, t.C, p) >= 0 && twice(t.C, t.A, p) >= 0
	})
}

func (l list) star(p api.Point) []api.Tri {
	return l.those(func(t api.Tri) bool { return t.A == p || t.B == p || t.C == p })
}

func (l list) trail(a, b api.Point) []api.Tri {
	return l.those(func(t api.Tri) bool { return piece(t, a, b) })
}

// closed tells whether each way that begins or ends at p is there in the other
// direction too, and there is one.
func (l list) closed(p api.Point) bool {
	var out, in []api.Point
	for _, t := range l {
		for _, w := range ways(t) {
			if w[0] == p {
				out = append(out, w[1])
			} else if w[1] == p {
				in = append(in, w[0])
			}
		}
	}
	for _, q := range out {
		if !slices.Contains(in, q) {
			return false
		}
	}
	for _, q := range in {
		if !slices.Contains(out, q) {
			return false
		}
	}
	return len(out) > 0
}

// piece tells whether a triangle and the segment from a to b have more than one point
// in common: how much of the way lies left of all its edges, as parts of it from 0
// to 1.
func piece(t api.Tri, a, b api.Point) bool {
	from, to := big.NewRat(0, 1), big.NewRat(1, 1)
	for _, w := range ways(t) {
		m, n := twice(w[0], w[1], a), twice(w[0], w[1], b)
		if m == n {
			if m < 0 {
				return false
			}
			continue
		}
		if over := big.NewRat(int64(m), int64(m-n)); n > m && over.Cmp(from) > 0 {
			from = over
		} else if n < m && over.Cmp(to) < 0 {
			to = over
		}
	}
	return a != b && from.Cmp(to) < 0
}

// add puts a triangle to the others, unless one stands on the same side of an edge of
// it.
func (l list) add(t api.Tri) list {
	for _, u := range l {
		for _, w := range ways(u) {
			for _, v := range ways(t) {
				if v == w {
					return l
				}
			}
		}
	}
	return append(l, t)
}

// cut puts three, or two, in the place of each one that has a point.
func (l list) cut(p api.Point) list {
	at := l.at(p)
	if len(at) == 0 || len(l.star(p)) > 0 {
		return l
	}
	var cut list
	for _, t := range l {
		if !slices.Contains(at, t) {
			cut = append(cut, t)
			continue
		}
		for _, w := range ways(t) {
			if u, ok := told(w[0], w[1], p); ok {
				cut = append(cut, u)
			}
		}
	}
	return cut
}

// dice is numbers that are always the same ones.
type dice uint64

func (d *dice) below(n int) int {
	*d = *d*6364136223846793005 + 1442695040888963407
	return int(uint64(*d) >> 33 % uint64(n))
}

func (d *dice) point(n int) api.Point { return pt(d.below(n), d.below(n)) }

// square is the square from (0,0) to (n,n), each place once, cut at some points.
func square(n int, points ...api.Point) list {
	l := list{tr(0, 0, n, 0, n, n), tr(0, 0, n, n, 0, n)}
	for _, p := range points {
		l = l.cut(p)
	}
	return l
}

// heap is some triangles that stand, or overlap, wherever it may be.
func heap(d *dice, n, size int) list {
	var l list
	for range n {
		if t, ok := told(d.point(size), d.point(size), d.point(size)); ok {
			l = l.add(t)
		}
	}
	return l
}

// without is what is left when some go.
func (l list) without(gone func(i int) bool) list {
	var rest list
	for i, t := range l {
		if !gone(i) {
			rest = append(rest, t)
		}
	}
	return rest
}
