package exact

import (
	"testing"

	"hectare/api"
)

// meet is what Meet should be, of points of a small grid: from where on each of
// the segments their lines cross.
func meet(a, b, c, d api.Point) int {
	if a == b || c == d {
		return 0
	}
	ux, uy, vx, vy := b.X-a.X, b.Y-a.Y, d.X-c.X, d.Y-c.Y
	whole := ux*vy - uy*vx
	if whole == 0 {
		return meetLevel(a, b, c, d)
	}
	// How far on from a, and from c: the ends are at 0 and at whole.
	onOne := (c.X-a.X)*vy - (c.Y-a.Y)*vx
	onTwo := (c.X-a.X)*uy - (c.Y-a.Y)*ux
	if whole < 0 {
		whole, onOne, onTwo = -whole, -onOne, -onTwo
	}
	if min(onOne, onTwo) < 0 || max(onOne, onTwo) > whole {
		return 0
	}
	endOne, endTwo := onOne == 0 || onOne == whole, onTwo == 0 || onTwo == whole
	switch {
	case endOne && endTwo:
		return 0
	case endOne || endTwo:
		return 2
	}
	return 1
}

// meetLevel is meet of segments that run level, or in one line.
func meetLevel(a, b, c, d api.Point) int {
	ux, uy := b.X-a.X, b.Y-a.Y
	if ux*(c.Y-a.Y) != uy*(c.X-a.X) {
		return 0
	}
	// How far on from a the other's ends are: a is at 0, b at whole.
	whole := ux*ux + uy*uy
	atC := (c.X-a.X)*ux + (c.Y-a.Y)*uy
	atD := (d.X-a.X)*ux + (d.Y-a.Y)*uy
	if min(max(atC, atD), whole) > max(min(atC, atD), 0) {
		return 3
	}
	return 0
}

func TestMeet(t *testing.T) {
	rows := []struct {
		what       string
		a, b, c, d api.Point
		want       int
	}{
		{"a cross", pt(0, 0), pt(4, 4), pt(0, 4), pt(4, 0), 1},
		{"a cross off the grid", pt(0, 0), pt(1, 2), pt(0, 1), pt(1, 0), 1},
		{"the ends of the grid", pt(0, 0), pt(far, far), pt(0, far), pt(far, 0), 1},
		{"a narrow cross", pt(0, 0), pt(far, far-1), pt(1, 1), pt(far-1, far-2), 1},
		{"a cross at a narrow end", pt(0, 0), pt(far, far-1), pt(0, 1), pt(far, far-2), 1},
		{"narrow, but apart", pt(0, 0), pt(far, far-1), pt(1, 1), pt(far-1, far-1), 0},
		{"an end on the other", pt(0, 0), pt(4, 0), pt(2, 0), pt(2, 3), 2},
		{"an end on the other, from below", pt(0, 1), pt(4, 1), pt(2, 0), pt(2, 1), 2},
		{"an end on the other, far", pt(0, 0), pt(far, far), pt(far-1, far-1), pt(far, 0), 2},
		{"an end beside the other, far", pt(0, 0), pt(far, far), pt(far, far-1), pt(far, 0), 0},
		{"an end in the line, beyond", pt(0, 0), pt(4, 0), pt(5, 0), pt(5, 3), 0},
		{"an end of both", pt(0, 0), pt(4, 0), pt(4, 0), pt(9, 9), 0},
		{"an end of both, in one line", pt(0, 0), pt(4, 4), pt(4, 4), pt(9, 9), 0},
		{"level", pt(0, 0), pt(4, 0), pt(0, 1), pt(4, 1), 0},
		{"apart in one line", pt(0, 0), pt(4, 4), pt(5, 5), pt(9, 9), 0},
		{"apart", pt(0, 0), pt(4, 0), pt(6, 1), pt(6, 9), 0},
		{"a piece", pt(0, 0), pt(4, 4), pt(3, 3), pt(9, 9), 3},
		{"a piece, upright", pt(2, 0), pt(2, 4), pt(2, 9), pt(2, 3), 3},
		{"one within the other", pt(0, 0), pt(far, far), pt(1, 1), pt(2, 2), 3},
		{"one within, at an end", pt(0, 0), pt(4, 0), pt(0, 0), pt(2, 0), 3},
		{"one and itself", pt(0, 0), pt(far, 5), pt(0, 0), pt(far, 5), 3},
		{"a point on the other", pt(2, 0), pt(2, 0), pt(0, 0), pt(4, 0), 0},
		{"a point and itself", pt(2, 0), pt(2, 0), pt(2, 0), pt(2, 0), 0},
		{"a point at an end", pt(2, 0), pt(2, 0), pt(2, 0), pt(4, 0), 0},
	}
	for _, r := range rows {
		named(r.a, r.b, r.c, r.d, func(a, b, c, d api.Point) {
			if got := Meet(a, b, c, d); got != r.want {
				t.Errorf("P2.3 %s: Meet(%v, %v, %v, %v): %d, want %d", r.what, a, b, c, d, got, r.want)
			}
		})
	}
}

// named calls do with two segments in each way that they can be named.
func named(a, b, c, d api.Point, do func(a, b, c, d api.Point)) {
	for range 2 {
		do(a, b, c, d)
		do(b, a, c, d)
		do(a, b, d, c)
		do(b, a, d, c)
		a, b, c, d = c, d, a, b
	}
}

func TestMeetAll(t *testing.T) {
	count := map[int]int{}
	quads(square(4), func(a, b, c, d api.Point) {
		got, want := Meet(a, b, c, d), meet(a, b, c, d)
		if got != want {
			t.Fatalf("P2.3 Meet(%v, %v, %v, %v): %d, want %d", a, b, c, d, got, want)
		}
		count[got]++
	})
	for n := range 4 {
		if count[n] == 0 {
			t.Errorf("P2.3 no segments meet as %d", n)
		}
	}
}
