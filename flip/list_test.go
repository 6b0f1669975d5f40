package flip

import (
	"math/big"
	"slices"
	"testing"

	"hectare/api"
	"hectare/mesh"
	"hectare/walls"
)

// list is some triangles, to be held against a Mesh: what is bad is told of it anew,
// in big numbers, without the packages that the program asks.
type list []api.Tri

const far = api.Grid - 1

func pt(x, y int) api.Point { return api.Point{X: x, Y: y} }

func tr(a, b, c, d, e, f int) api.Tri { return api.Tri{A: pt(a, b), B: pt(c, d), C: pt(e, f)} }

func wl(a, b, c, d, kind int) api.Wall { return api.Wall{A: pt(a, b), B: pt(c, d), Kind: kind} }

// in is an inner wall.
func in(a, b, c, d int) api.Wall { return wl(a, b, c, d, api.Inner) }

func before(p, q api.Point) bool {
	return p.X < q.X || p.X == q.X && p.Y < q.Y
}

// twice is twice the area that lies left of the way round.
func twice(a, b, c api.Point) int {
	return (b.X-a.X)*(c.Y-a.Y) - (b.Y-a.Y)*(c.X-a.X)
}

// ways is the edges of a triangle, each with its corner across.
func ways(t api.Tri) [3][3]api.Point {
	return [3][3]api.Point{{t.A, t.B, t.C}, {t.B, t.C, t.A}, {t.C, t.A, t.B}}
}

// within tells whether d is within the circle of a, b, c, which go round to the left.
// Each point is lifted by its squares; where all four are at one height then, the
// least one by a little less.
func within(a, b, c, d api.Point) bool {
	least := d
	for _, p := range []api.Point{a, b, c} {
		if before(p, least) {
			least = p
		}
	}
	for _, less := range []int64{0, 1} {
		lift := func(p api.Point) *big.Int {
			x, y := big.NewInt(int64(p.X)), big.NewInt(int64(p.Y))
			h := new(big.Int).Add(x.Mul(x, x), y.Mul(y, y))
			if p == least {
				h.Sub(h, big.NewInt(less))
			}
			return h
		}
		sum := new(big.Int)
		for _, w := range [][3]api.Point{{a, b, c}, {b, c, a}, {c, a, b}} {
			h := new(big.Int).Sub(lift(w[0]), lift(d))
			sum.Add(sum, h.Mul(h, big.NewInt(int64(twice(d, w[1], w[2])))))
		}
		if sum.Sign() != 0 {
			return sum.Sign() > 0
		}
	}
	return false
}

// bad is the bad edges, rising.
func (l list) bad(s []api.Wall) []api.Wall {
	var some []api.Wall
	for _, t := range l {
		for _, v := range ways(t) {
			for _, u := range l {
				for _, w := range ways(u) {
					if before(v[0], v[1]) && v[0] == w[1] && v[1] == w[0] && !stays(s, v[0], v[1]) && within(v[0], v[1], v[2], w[2]) {
						some = append(some, api.Wall{A: v[0], B: v[1], Kind: api.Inner})
					}
				}
			}
		}
	}
	slices.SortFunc(some, func(v, w api.Wall) int {
		if before(v.A, w.A) || v.A == w.A && before(v.B, w.B) {
			return -1
		}
		return 1
	})
	return some
}

// stays tells whether a way is a wall.
func stays(s []api.Wall, a, b api.Point) bool {
	return slices.ContainsFunc(s, func(w api.Wall) bool { return w.A == a && w.B == b || w.A == b && w.B == a })
}

// told is the triangle of three points, as it is told; false of three on one line.
func told(a, b, c api.Point) (api.Tri, bool) {
	if twice(a, b, c) < 0 {
		b, c = c, b
	}
	for before(b, a) || before(c, a) {
		a, b, c = b, c, a
	}
	return api.Tri{A: a, B: b, C: c}, twice(a, b, c) != 0
}

// square is two triangles, cut at points one after the other, and nothing flipped.
func square(w, h int, cuts ...api.Point) list {
	l := list{tr(0, 0, w, 0, w, h), tr(0, 0, w, h, 0, h)}
	for _, p := range cuts {
		var after list
		for _, t := range l {
			if twice(t.A, t.B, p) < 0 || twice(t.B, t.C, p) < 0 || twice(t.C, t.A, p) < 0 || p == t.A || p == t.B || p == t.C {
				after = append(after, t)
				continue
			}
			for _, v := range ways(t) {
				if u, ok := told(v[0], v[1], p); ok {
					after = append(after, u)
				}
			}
		}
		l = after
	}
	return l
}

// points is all corners, each once.
func (l list) points() []api.Point {
	var ps []api.Point
	for _, t := range l {
		for _, p := range []api.Point{t.A, t.B, t.C} {
			if !slices.Contains(ps, p) {
				ps = append(ps, p)
			}
		}
	}
	return ps
}

// edges is all ways from a lesser point to a greater one, each once.
func (l list) edges() [][2]api.Point {
	var es [][2]api.Point
	for _, t := range l {
		for _, v := range ways(t) {
			e := [2]api.Point{v[0], v[1]}
			if before(e[1], e[0]) {
				e = [2]api.Point{v[1], v[0]}
			}
			if !slices.Contains(es, e) {
				es = append(es, e)
			}
		}
	}
	return es
}

// rim is the edges of just one triangle, as Border walls.
func (l list) rim() []api.Wall {
	var s []api.Wall
	for _, e := range l.edges() {
		n := 0
		for _, t := range l {
			for _, v := range ways(t) {
				if v[0] == e[0] && v[1] == e[1] || v[0] == e[1] && v[1] == e[0] {
					n++
				}
			}
		}
		if n == 1 {
			s = append(s, api.Wall{A: e[0], B: e[1], Kind: api.Border})
		}
	}
	return s
}

// dice is numbers that are always the same ones.
type dice uint64

func (d *dice) below(n int) int {
	*d = *d*6364136223846793005 + 1442695040888963407
	return int(uint64(*d) >> 33 % uint64(n))
}

// made is a Mesh of triangles that may be.
func made(t *testing.T, l list) *mesh.Mesh {
	t.Helper()
	m, e := mesh.New(l)
	if e != api.OK {
		t.Fatalf("mesh.New(%v): %d", l, e)
	}
	return m
}

// fixed is a Set of walls that may be.
func fixed(t *testing.T, l []api.Wall) *walls.Set {
	t.Helper()
	s, e := walls.New(l)
	if e != api.OK {
		t.Fatalf("walls.New(%v): %d", l, e)
	}
	return s
}
