package walls

import (
	"math"
	"slices"

	"hectare/api"
)

// list is some walls, in whatever order, to be held against a Set: everything is told
// of it anew, without the packages that the program asks.
type list []api.Wall

const far = api.Grid - 1

func pt(x, y int) api.Point { return api.Point{X: x, Y: y} }

func wl(a, b, c, d, kind int) api.Wall { return api.Wall{A: pt(a, b), B: pt(c, d), Kind: kind} }

// in is an inner wall.
func in(a, b, c, d int) api.Wall { return wl(a, b, c, d, api.Inner) }

func before(p, q api.Point) bool {
	return p.X < q.X || p.X == q.X && p.Y < q.Y
}

// told is the wall between two points, as it is told.
func told(a, b api.Point, kind int) api.Wall {
	if before(b, a) {
		a, b = b, a
	}
	return api.Wall{A: a, B: b, Kind: kind}
}

// may tells whether a wall may be.
func may(w api.Wall) bool {
	for _, n := range []int{w.A.X, w.A.Y, w.B.X, w.B.Y} {
		if n < 0 || n > far {
			return false
		}
	}
	return before(w.A, w.B) && (w.Kind == api.Inner || w.Kind == api.Border)
}

// area is twice that between two ways.
func area(a, b, c, d api.Point) int {
	return (b.X-a.X)*(d.Y-c.Y) - (b.Y-a.Y)*(d.X-c.X)
}

// disturb tells whether two walls have a point in common that is not an end of both.
func disturb(v, w api.Wall) bool {
	n := area(v.A, v.B, w.A, w.B)
	if n == 0 {
		onLine := area(v.A, v.B, v.A, w.A) == 0
		return onLine && before(v.A, w.B) && before(w.A, v.B)
	}
	// How far along each of them the two lines meet, as parts of n.
	along, across := area(v.A, w.A, w.A, w.B), area(v.A, w.A, v.A, v.B)
	if n < 0 {
		n, along, across = -n, -along, -across
	}
	if min(along, across) < 0 || max(along, across) > n {
		return false
	}
	return along > 0 && along < n || across > 0 && across < n
}

// on tells whether a wall has a point, not as an end.
func on(w api.Wall, p api.Point) bool {
	return before(w.A, p) && before(p, w.B) && area(w.A, w.B, w.A, p) == 0
}

// those is the ones that are asked for, rising.
func (l list) those(asked func(api.Wall) bool) list {
	var some list
	for _, w := range l {
		if asked(w) {
			some = append(some, w)
		}
	}
	slices.SortFunc(some, func(v, w api.Wall) int {
		switch {
		case v == w:
			return 0
		case before(v.A, w.A) || v.A == w.A && (before(v.B, w.B) || v.B == w.B && v.Kind < w.Kind):
			return -1
		}
		return 1
	})
	return some
}

func (l list) all() list {
	return l.those(func(api.Wall) bool { return true })
}

func (l list) at(p api.Point) list {
	return l.those(func(w api.Wall) bool { return w.A == p || w.B == p })
}

func (l list) on(p api.Point) list {
	return l.those(func(w api.Wall) bool { return on(w, p) })
}

// between is the walls between two points.
func (l list) between(a, b api.Point) list {
	return l.those(func(w api.Wall) bool { return w.A == a && w.B == b || w.A == b && w.B == a })
}

func (l list) kind(a, b api.Point) int {
	for _, w := range l.between(a, b) {
		return w.Kind
	}
	return 0
}

// clash is why the others may not have w beside them.
func (l list) clash(w api.Wall) api.Errno {
	switch {
	case !may(w):
		return api.Malformed
	case l.kind(w.A, w.B) != 0:
		return api.Have
	case slices.ContainsFunc(l, func(v api.Wall) bool { return disturb(v, w) }):
		return api.Cross
	}
	return api.OK
}

// fault is why all of them may not be a Set.
func (l list) fault() api.Errno {
	worst := api.OK
	for i, w := range l {
		e := l[:i].clash(w)
		if e == api.Malformed {
			return e
		}
		// Two that are the same are told ahead of two that cross.
		if worst == api.OK || e == api.Have {
			worst = e
		}
	}
	return worst
}

// dice is numbers that are always the same ones.
type dice uint64

func (d *dice) below(n int) int {
	*d = *d*6364136223846793005 + 1442695040888963407
	return int(uint64(*d) >> 33 % uint64(n))
}

func (d *dice) point(n int) api.Point { return pt(d.below(n), d.below(n)) }

func (d *dice) kind() int { return api.Inner + d.below(2) }

// points is all points of some rows and columns.
func points(l ...int) []api.Point {
	var m []api.Point
	for _, x := range l {
		for _, y := range l {
			m = append(m, pt(x, y))
		}
	}
	return m
}

// strangers is points that are not Valid.
func strangers() []api.Point {
	return []api.Point{
		pt(-1, 2), pt(2, -1), pt(far+1, 2), pt(2, far+1), pt(-1, -1), pt(far+1, far+1),
		pt(math.MinInt, 2), pt(2, math.MinInt), pt(math.MaxInt, 2), pt(2, math.MaxInt),
		pt(math.MinInt, math.MinInt), pt(math.MaxInt, math.MaxInt), pt(2+1<<32, 2), pt(2, 2-1<<32),
	}
}
