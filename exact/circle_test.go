package exact

import (
	"math"
	"math/big"
	"slices"
	"testing"

	"hectare/api"
)

// turns calls do with four points in each order in which they can be named.
func turns(four [4]api.Point, do func(a, b, c, d api.Point)) {
	for i := range 4 {
		for j := range 4 {
			for k := range 4 {
				if i != j && i != k && j != k {
					do(four[i], four[j], four[k], four[6-i-j-k])
				}
			}
		}
	}
}

// near holds the distance from the middle of the circle of a, b, c to d against
// that to a: 1, if d is nearer, so within; 0 on the circle.
func near(a, b, c, d api.Point) int {
	bx, by := way(a, b)
	cx, cy := way(a, c)
	dx, dy := way(a, d)
	bb, cc := plus(times(bx, bx), times(by, by)), plus(times(cx, cx), times(cy, cy))
	// Seen from a, the middle is at mx and my, each divided by scale.
	scale := times(big.NewInt(2), less(times(bx, cy), times(by, cx)))
	mx, my := less(times(cy, bb), times(by, cc)), less(times(bx, cc), times(cx, bb))
	dx, dy = less(times(dx, scale), mx), less(times(dy, scale), my)
	return plus(times(mx, mx), times(my, my)).Cmp(plus(times(dx, dx), times(dy, dy)))
}

// rule is the tie rule as the document words it: where a, b, c turn left, and d
// is on their circle.
func rule(a, b, c, d api.Point) int {
	x := a
	for _, p := range []api.Point{b, c, d} {
		if p.X < x.X || p.X == x.X && p.Y < x.Y {
			x = p
		}
	}
	switch x {
	case d:
		return 1
	case a:
		return -side(d, b, c)
	case b:
		return -side(a, d, c)
	}
	return -side(a, b, d)
}

// circle is what Circle should be.
func circle(a, b, c, d api.Point) int {
	turn := side(a, b, c)
	if turn == 0 || d == a || d == b || d == c {
		return 0
	}
	if turn < 0 {
		return -circle(a, c, b, d)
	}
	if n := near(a, b, c, d); n != 0 {
		return n
	}
	return rule(a, b, c, d)
}

func TestCircle(t *testing.T) {
	rows := []struct {
		a, b, c, d api.Point
		want       int
	}{
		{pt(0, 0), pt(4, 0), pt(0, 4), pt(1, 1), 1},
		{pt(0, 0), pt(4, 0), pt(0, 4), pt(3, 3), 1},
		{pt(0, 0), pt(4, 0), pt(0, 4), pt(5, 5), -1},
		{pt(0, 0), pt(4, 0), pt(0, 4), pt(2, 0), 1},
		{pt(0, 0), pt(4, 0), pt(0, 4), pt(5, 0), -1},
		{pt(0, 0), pt(0, 4), pt(4, 0), pt(1, 1), -1},
		{pt(0, 0), pt(0, 4), pt(4, 0), pt(5, 5), 1},
		{pt(0, 0), pt(2, 0), pt(4, 0), pt(1, 1), 0},
		{pt(0, 0), pt(0, 0), pt(4, 0), pt(1, 1), 0},
		{pt(0, 0), pt(4, 0), pt(0, 4), pt(0, 0), 0},
		{pt(0, 0), pt(4, 0), pt(0, 4), pt(4, 0), 0},
		{pt(0, 0), pt(4, 0), pt(0, 4), pt(0, 4), 0},
		// On the circle: the least is the first, the second, the third, the last.
		{pt(0, 0), pt(1, 0), pt(0, 1), pt(1, 1), 1},
		{pt(0, 0), pt(1, 0), pt(1, 1), pt(0, 1), -1},
		{pt(0, 1), pt(0, 0), pt(1, 0), pt(1, 1), 1},
		{pt(0, 1), pt(0, 0), pt(1, 1), pt(1, 0), -1},
		{pt(1, 0), pt(1, 1), pt(0, 0), pt(0, 1), -1},
		{pt(1, 0), pt(0, 1), pt(0, 0), pt(1, 1), 1},
		{pt(1, 0), pt(1, 1), pt(0, 1), pt(0, 0), 1},
		{pt(1, 1), pt(1, 0), pt(0, 1), pt(0, 0), -1},
		{pt(0, 0), pt(far, 0), pt(far, far), pt(0, far), -1},
		{pt(far, 0), pt(far, far), pt(0, far), pt(0, 0), 1},
		{pt(0, 0), pt(far, 0), pt(far, far), pt(1, far), 1},
		{pt(0, 0), pt(far, 0), pt(far, far), pt(0, far-1), 1},
		{pt(1, 0), pt(far, 0), pt(far, far), pt(0, far), -1},
	}
	for _, r := range rows {
		if got := Circle(r.a, r.b, r.c, r.d); got != r.want {
			t.Errorf("P2.2 Circle(%v, %v, %v, %v): %d, want %d", r.a, r.b, r.c, r.d, got, r.want)
		}
	}
}

func TestCircleAll(t *testing.T) {
	for _, l := range [][]api.Point{square(4), corners()[:14], corners()[11:], spread(11)} {
		quads(l, func(a, b, c, d api.Point) {
			if got, want := Circle(a, b, c, d), circle(a, b, c, d); got != want {
				t.Fatalf("P2.2 P2.4 Circle(%v, %v, %v, %v): %d, want %d", a, b, c, d, got, want)
			}
		})
	}
}

// ring is points on one circle that nearly fills the grid, in the order round to
// the left: those of a smaller one, made greater.
func ring() []api.Point {
	const radius, scale, middle = 1105, 7591, api.Grid / 2
	var right, left []api.Point
	for y := -radius; y <= radius; y++ {
		x := int(math.Round(math.Sqrt(float64(radius*radius - y*y))))
		if x*x+y*y == radius*radius {
			right = append(right, pt(middle+x*scale, middle+y*scale))
			left = append(left, pt(middle-x*scale, middle-y*scale))
		}
	}
	// The left half is the right one turned half round; the ends are of both.
	return append(right, left[1:len(left)-1]...)
}

// rings is fours of points that are on one circle, in the order round to the
// left: of a great one, of the grid's ends, and of small ones.
func rings() [][4]api.Point {
	var l [][4]api.Point
	r := ring()
	for i := 0; i < len(r); i += 5 {
		for j := i + 1; j < len(r); j += 7 {
			for k := j + 1; k < len(r); k += 9 {
				for n := k + 1; n < len(r); n += 11 {
					l = append(l, [4]api.Point{r[i], r[j], r[k], r[n]})
				}
			}
		}
	}
	return append(l,
		[4]api.Point{pt(0, 0), pt(far, 0), pt(far, far), pt(0, far)},
		[4]api.Point{pt(0, 0), pt(1, 0), pt(1, far), pt(0, far)},
		[4]api.Point{pt(0, 0), pt(1, 0), pt(1, 1), pt(0, 1)},
		[4]api.Point{pt(far-1, far-1), pt(far, far-1), pt(far, far), pt(far-1, far)},
		[4]api.Point{pt(1, 0), pt(2, 1), pt(1, 2), pt(0, 1)},
		[4]api.Point{pt(0, 0), pt(4, 0), pt(3, 3), pt(1, 3)},
		[4]api.Point{pt(0, 3), pt(1, 0), pt(4, 3), pt(1, 4)},
	)
}

func TestRings(t *testing.T) {
	if n := len(rings()); n < 300 {
		t.Fatalf("only %d fours", n)
	}
	for _, four := range rings() {
		turns(four, func(a, b, c, d api.Point) {
			if near(a, b, c, d) != 0 {
				t.Fatalf("%v %v %v %v are not on one circle", a, b, c, d)
			}
			if got, want := Circle(a, b, c, d), circle(a, b, c, d); got != want || got == 0 {
				t.Fatalf("P2.2 Circle(%v, %v, %v, %v): %d, want %d", a, b, c, d, got, want)
			}
			if got, back := Circle(a, b, c, d), Circle(b, a, c, d); got != -back {
				t.Fatalf("P2.2 Circle(%v, %v, %v, %v): %d, of the other turn %d", a, b, c, d, got, back)
			}
		})
	}
}

// TestNearRings moves one point of four by one: within or without, as it is.
func TestNearRings(t *testing.T) {
	ways := []api.Point{pt(1, 0), pt(-1, 0), pt(0, 1), pt(0, -1)}
	for i, four := range rings() {
		w := ways[i%4]
		four[3] = pt(four[3].X+w.X, four[3].Y+w.Y)
		if !Valid(four[3]) {
			continue
		}
		turns(four, func(a, b, c, d api.Point) {
			if got, want := Circle(a, b, c, d), circle(a, b, c, d); got != want {
				t.Fatalf("P2.4 Circle(%v, %v, %v, %v): %d, want %d", a, b, c, d, got, want)
			}
		})
	}
}

// within tells whether d is in the circle of a, b, c, whichever way they turn.
func within(a, b, c, d api.Point) bool {
	return Circle(a, b, c, d)*Orient(a, b, c) > 0
}

// nobody tells whether the cut from a to c leaves nobody within: neither b nor d
// in the circle of the triangle on the other side.
func nobody(a, b, c, d api.Point) bool {
	return !within(a, b, c, d) && !within(c, d, a, b)
}

func TestOneCut(t *testing.T) {
	for _, four := range rings() {
		p, q, r, s := four[0], four[1], four[2], four[3]
		low := slices.MinFunc(four[:], Cmp)
		if got := nobody(p, q, r, s); got != (low == p || low == r) {
			t.Errorf("P2.4 %v, cut from the first one: %v", four, got)
		}
		if got := nobody(q, r, s, p); got != (low == q || low == s) {
			t.Errorf("P2.4 %v, cut from the second one: %v", four, got)
		}
		turns(four, func(a, b, c, d api.Point) {
			beyond := four[(slices.Index(four[:], d)+2)%4]
			if got, want := within(a, b, c, d), low == d || low == beyond; got != want {
				t.Errorf("P2.4 %v in the circle of %v %v %v: %v", d, a, b, c, got)
			}
		})
	}
}
