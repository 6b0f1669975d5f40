package exact

import (
	"math"
	"math/big"
	"slices"
	"testing"

	"hectare/api"
)

const far = api.Grid - 1

func pt(x, y int) api.Point { return api.Point{X: x, Y: y} }

// strangers is points that are not Valid.
func strangers() []api.Point {
	return []api.Point{
		pt(-1, 0), pt(0, -1), pt(-1, -1), pt(far+1, 0), pt(0, far+1), pt(far+1, far+1), pt(-1, far+1),
		pt(5, math.MaxInt), pt(math.MaxInt, 5), pt(5, math.MinInt), pt(math.MinInt, 5),
		pt(math.MinInt, math.MaxInt), pt(math.MaxInt, math.MaxInt), pt(1<<32, 1<<32), pt(-far, -far),
	}
}

// square is the points of a small grid.
func square(n int) []api.Point {
	var l []api.Point
	for x := range n {
		for y := range n {
			l = append(l, pt(x, y))
		}
	}
	return l
}

// corners is points at the ends of the grid, and around its middle.
func corners() []api.Point {
	var l []api.Point
	for _, x := range []int{0, 1, far / 2, far - 1, far} {
		for _, y := range []int{0, 1, far/2 + 1, far - 1, far} {
			l = append(l, pt(x, y))
		}
	}
	return l
}

// spread is points from a short rule: of all of the grid, the same each time.
func spread(n int) []api.Point {
	l := make([]api.Point, 0, n)
	x := uint64(88172645463325252)
	for range n {
		x ^= x << 13
		x ^= x >> 7
		x ^= x << 17
		l = append(l, pt(int(x&far), int(x>>32&far)))
	}
	return l
}

// quads calls do with all fours of some points, each as often as it can be
// named.
func quads(l []api.Point, do func(a, b, c, d api.Point)) {
	for _, a := range l {
		for _, b := range l {
			for _, c := range l {
				for _, d := range l {
					do(a, b, c, d)
				}
			}
		}
	}
}

func times(a, b *big.Int) *big.Int { return new(big.Int).Mul(a, b) }

func less(a, b *big.Int) *big.Int { return new(big.Int).Sub(a, b) }

func plus(a, b *big.Int) *big.Int { return new(big.Int).Add(a, b) }

// way is the way from one point to another.
func way(from, to api.Point) (x, y *big.Int) {
	return big.NewInt(int64(to.X - from.X)), big.NewInt(int64(to.Y - from.Y))
}

// side is the sign of twice the area of a, b, c: of the sum over its edges.
func side(a, b, c api.Point) int {
	sum := new(big.Int)
	for _, e := range [][2]api.Point{{a, b}, {b, c}, {c, a}} {
		x0, y0 := way(pt(0, 0), e[0])
		x1, y1 := way(pt(0, 0), e[1])
		sum.Add(sum, less(times(x0, y1), times(x1, y0)))
	}
	return sum.Sign()
}

func TestValid(t *testing.T) {
	for _, p := range append(corners(), spread(50)...) {
		if !Valid(p) {
			t.Errorf("P2.1 %v is not Valid", p)
		}
	}
	for _, p := range strangers() {
		if Valid(p) {
			t.Errorf("P2.1 %v is Valid", p)
		}
	}
}

func TestCmp(t *testing.T) {
	rows := []struct {
		p, q api.Point
		want int
	}{
		{pt(3, 4), pt(3, 4), 0},
		{pt(3, 4), pt(3, 5), -1},
		{pt(3, 4), pt(4, 0), -1},
		{pt(0, far), pt(1, 0), -1},
		{pt(far, 0), pt(0, far), 1},
		{pt(-1, 9), pt(0, 0), -1},
		{pt(0, -1), pt(0, 0), -1},
		{pt(math.MinInt, 0), pt(math.MaxInt, 0), -1},
		{pt(0, math.MinInt), pt(0, math.MaxInt), -1},
		{pt(math.MinInt, math.MaxInt), pt(math.MinInt, math.MinInt), 1},
		{pt(math.MaxInt, math.MinInt), pt(math.MaxInt, math.MinInt), 0},
	}
	for _, r := range rows {
		if got, back := Cmp(r.p, r.q), Cmp(r.q, r.p); got != r.want || back != -r.want {
			t.Errorf("P2.1 Cmp of %v and %v: %d, back %d, want %d", r.p, r.q, got, back, r.want)
		}
	}
}

func TestOrient(t *testing.T) {
	rows := []struct {
		a, b, c api.Point
		want    int
	}{
		{pt(0, 0), pt(4, 0), pt(0, 4), 1},
		{pt(0, 0), pt(4, 0), pt(9, 1), 1},
		{pt(0, 0), pt(0, 4), pt(4, 0), -1},
		{pt(4, 4), pt(0, 0), pt(1, 0), 1},
		{pt(0, 0), pt(1, 1), pt(far, far), 0},
		{pt(0, 0), pt(far, far), pt(far-1, far), 1},
		{pt(0, 0), pt(far, far), pt(far, far-1), -1},
		{pt(0, 0), pt(far, far-1), pt(far-1, far-2), -1},
		{pt(0, 0), pt(far-1, far-2), pt(far, far-1), 1},
		{pt(0, far), pt(far, 0), pt(far, far), 1},
		{pt(far, 0), pt(0, far), pt(far, far), -1},
		{pt(3, 3), pt(3, 3), pt(4, 7), 0},
		{pt(3, 3), pt(4, 7), pt(4, 7), 0},
		{pt(3, 3), pt(4, 7), pt(3, 3), 0},
		{pt(3, 3), pt(3, 3), pt(3, 3), 0},
	}
	for _, r := range rows {
		if got := Orient(r.a, r.b, r.c); got != r.want {
			t.Errorf("P2.1 Orient(%v, %v, %v): %d, want %d", r.a, r.b, r.c, got, r.want)
		}
	}
	for _, l := range [][]api.Point{square(4), corners(), spread(30)} {
		for _, a := range l {
			for _, b := range l {
				for _, c := range l {
					if got, want := Orient(a, b, c), side(a, b, c); got != want {
						t.Fatalf("P2.1 P2.4 Orient(%v, %v, %v): %d, want %d", a, b, c, got, want)
					}
				}
			}
		}
	}
}

func TestOn(t *testing.T) {
	rows := []struct {
		p, a, b api.Point
		want    bool
	}{
		{pt(0, 0), pt(0, 0), pt(4, 4), true},
		{pt(4, 4), pt(0, 0), pt(4, 4), true},
		{pt(2, 2), pt(0, 0), pt(4, 4), true},
		{pt(5, 5), pt(1, 1), pt(4, 4), false},
		{pt(0, 0), pt(1, 1), pt(4, 4), false},
		{pt(2, 3), pt(0, 0), pt(4, 4), false},
		{pt(2, 0), pt(2, 1), pt(2, 5), false},
		{pt(2, 1), pt(2, 1), pt(2, 5), true},
		{pt(2, 3), pt(2, 1), pt(2, 5), true},
		{pt(2, 6), pt(2, 1), pt(2, 5), false},
		{pt(3, 7), pt(1, 7), pt(5, 7), true},
		{pt(6, 7), pt(1, 7), pt(5, 7), false},
		{pt(1, 3), pt(0, 4), pt(4, 0), true},
		{pt(5, 5), pt(5, 5), pt(5, 5), true},
		{pt(5, 6), pt(5, 5), pt(5, 5), false},
		{pt(1, 1), pt(0, 0), pt(far, far), true},
		{pt(far-1, far), pt(0, 0), pt(far, far), false},
		{pt(far, far), pt(0, 0), pt(far, far), true},
		{pt(1, far-1), pt(far, 0), pt(0, far), true},
	}
	for _, r := range rows {
		if got, back := On(r.p, r.a, r.b), On(r.p, r.b, r.a); got != r.want || back != r.want {
			t.Errorf("P2.1 On(%v, %v, %v): %v, back %v, want %v", r.p, r.a, r.b, got, back, r.want)
		}
	}
}

// TestOnAll holds On against the sum of two ways, which is the whole way of just
// those points that are on it.
func TestOnAll(t *testing.T) {
	l := square(5)
	for _, a := range l {
		for _, b := range l {
			for _, p := range l {
				ux, uy, vx, vy := p.X-a.X, p.Y-a.Y, b.X-p.X, b.Y-p.Y
				want := ux*vy == uy*vx && ux*vx+uy*vy >= 0
				if got := On(p, a, b); got != want {
					t.Fatalf("P2.1 On(%v, %v, %v): %v, want %v", p, a, b, got, want)
				}
			}
		}
	}
}

// TestStrangers puts each point that is not Valid in each place of calls that
// would tell something otherwise.
func TestStrangers(t *testing.T) {
	good := []api.Point{pt(1, 1), pt(9, 2), pt(4, 8), pt(5, 4)}
	for _, s := range strangers() {
		for i := range 4 {
			l := slices.Clone(good)
			l[i] = s
			a, b, c, d := l[0], l[1], l[2], l[3]
			if got := Orient(a, b, c); i < 3 && got != 0 {
				t.Errorf("P2.1 Orient(%v, %v, %v): %d", a, b, c, got)
			}
			if got := Circle(a, b, c, d); got != 0 {
				t.Errorf("P2.2 Circle(%v, %v, %v, %v): %d", a, b, c, d, got)
			}
			if got := Meet(a, c, b, d); got != 0 {
				t.Errorf("P2.3 Meet(%v, %v, %v, %v): %d", a, c, b, d, got)
			}
		}
		if On(s, s, good[0]) || On(s, good[0], s) || On(good[0], good[0], s) || On(good[0], s, good[0]) || On(s, s, s) {
			t.Errorf("P2.1 On tells of %v", s)
		}
		if Meet(s, good[0], s, good[0]) != 0 || Meet(good[0], good[1], s, s) != 0 {
			t.Errorf("P2.3 Meet tells of %v", s)
		}
	}
}

// TestJustOutside is of points that would cross, lie along each other, turn or be
// within, if all of them were Valid.
func TestJustOutside(t *testing.T) {
	segments := [][4]api.Point{
		{pt(-1, 0), pt(4, 0), pt(1, 0), pt(3, 0)},
		{pt(0, 0), pt(0, far+1), pt(0, 1), pt(0, 3)},
		{pt(0, 0), pt(4, 4), pt(-1, 5), pt(5, -1)},
		{pt(0, 0), pt(far+1, far+1), pt(0, far), pt(far, 0)},
		{pt(far, 0), pt(far, 9), pt(far+1, 4), pt(0, 4)},
	}
	for _, s := range segments {
		named(s[0], s[1], s[2], s[3], func(a, b, c, d api.Point) {
			if got := Meet(a, b, c, d); got != 0 {
				t.Errorf("P2.3 Meet(%v, %v, %v, %v): %d", a, b, c, d, got)
			}
		})
	}
	rows := []int{
		Circle(pt(0, 0), pt(far, 0), pt(far, far), pt(far+1, far)),
		Circle(pt(0, 0), pt(far+1, 0), pt(0, far), pt(far, far)),
		Circle(pt(0, 0), pt(far, 0), pt(0, far), pt(-1, 0)),
		Orient(pt(0, 0), pt(far+1, 0), pt(0, far)),
		Orient(pt(0, -1), pt(far, 0), pt(0, far)),
	}
	for i, got := range rows {
		if got != 0 {
			t.Errorf("P2.1 P2.2 row %d: %d", i, got)
		}
	}
	on := []bool{
		On(pt(0, 0), pt(-1, 0), pt(4, 0)),
		On(pt(far, 0), pt(0, 0), pt(far+1, 0)),
		On(pt(-1, 3), pt(-1, 3), pt(4, 3)),
		On(pt(2, -1), pt(0, 0), pt(4, 0)),
		On(pt(2, math.MaxInt), pt(4, 0), pt(0, 0)),
	}
	for i, got := range on {
		if got {
			t.Errorf("P2.1 On tells of points that are not Valid: row %d", i)
		}
	}
}
