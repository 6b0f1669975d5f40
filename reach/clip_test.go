package reach

import (
	"math/big"

	"hectare/api"
)

// spot is a point of the plane.
type spot struct{ x, y *big.Rat }

// half is the points of the plane where a*x + b*y + c is not below 0.
type half struct{ a, b, c int }

func whole(p api.Point) spot {
	return spot{new(big.Rat).SetInt64(int64(p.X)), new(big.Rat).SetInt64(int64(p.Y))}
}

// of is how far within the half a spot is.
func (h half) of(s spot) *big.Rat {
	n := new(big.Rat).SetInt64(int64(h.c))
	n.Add(n, new(big.Rat).Mul(new(big.Rat).SetInt64(int64(h.a)), s.x))
	return n.Add(n, new(big.Rat).Mul(new(big.Rat).SetInt64(int64(h.b)), s.y))
}

// between is where the way from s to t, which are m and n within, goes over.
func between(s, t spot, m, n *big.Rat) spot {
	part := new(big.Rat).Quo(m, new(big.Rat).Sub(m, n))
	on := func(from, to *big.Rat) *big.Rat {
		way := new(big.Rat).Sub(to, from)
		return way.Add(from, way.Mul(way, part))
	}
	return spot{on(s.x, t.x), on(s.y, t.y)}
}

// clipped is what is left, within a half, of the points that lie between some.
func clipped(l []spot, h half) []spot {
	var left []spot
	for i, s := range l {
		t := l[(i+1)%len(l)]
		m, n := h.of(s), h.of(t)
		if m.Sign() >= 0 {
			left = append(left, s)
		}
		if m.Sign()*n.Sign() < 0 {
			left = append(left, between(s, t, m, n))
		}
	}
	return left
}

func clippedAll(l []spot, halves []half) []spot {
	for _, h := range halves {
		if l = clipped(l, h); len(l) == 0 {
			break
		}
	}
	return l
}

// shared tells whether a triangle and a window have a point in common: whether
// something is left of the triangle within the window's four sides.
func shared(t api.Tri, r api.Rect) bool {
	sides := []half{{1, 0, -r.X0}, {-1, 0, r.X1}, {0, 1, -r.Y0}, {0, -1, r.Y1}}
	return len(clippedAll([]spot{whole(t.A), whole(t.B), whole(t.C)}, sides)) > 0
}

// left is the points left of the way from p to q, and on its line.
func left(p, q api.Point) half {
	dx, dy := q.X-p.X, q.Y-p.Y
	return half{-dy, dx, dy*p.X - dx*p.Y}
}

// piece tells whether more than one point is left of a segment within a
// triangle's three edges.
func piece(t api.Tri, a, b api.Point) bool {
	l := clippedAll([]spot{whole(a), whole(b)}, []half{left(t.A, t.B), left(t.B, t.C), left(t.C, t.A)})
	for _, s := range l {
		if s.x.Cmp(l[0].x) != 0 || s.y.Cmp(l[0].y) != 0 {
			return true
		}
	}
	return false
}
