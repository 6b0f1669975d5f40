package walk

import (
	"slices"
	"testing"

	"hectare/api"
)

// A square of four about its middle: l on its left, b below, u above, r on its right.
var (
	l = tr(0, 0, 2, 2, 0, 4)
	b = tr(0, 0, 4, 0, 2, 2)
	u = tr(0, 4, 2, 2, 4, 4)
	r = tr(2, 2, 4, 0, 4, 4)
	// One that stands at a corner of it, one on its own, and one that lies about its middle.
	e = tr(4, 4, 8, 4, 8, 8)
	s = tr(10, 0, 14, 0, 10, 4)
	o = tr(1, 1, 3, 2, 2, 3)
	// One whose edge has the corner of two of the square's in it.
	w = tr(3, 5, 5, 3, 6, 6)
)

func TestAtRows(t *testing.T) {
	rows := []struct {
		what string
		in   list
		p    api.Point
		want []api.Tri
	}{
		{"inside", list{l, b, u, r}, pt(2, 1), list{b}},
		{"inside, near to an edge", list{l, b, u, r}, pt(1, 2), list{l}},
		{"on an edge within", list{r, u, b, l}, pt(1, 1), list{l, b}},
		{"on another edge within", list{r, u, b, l}, pt(3, 3), list{u, r}},
		{"on an edge at the rim", list{l, b, u, r}, pt(4, 2), list{r}},
		{"on another edge at the rim", list{l, b, u, r}, pt(0, 3), list{l}},
		{"at a corner within", list{r, u, b, l}, pt(2, 2), list{l, b, u, r}},
		{"at a corner at the rim", list{r, u, b, l}, pt(0, 0), list{l, b}},
		{"outside", list{l, b, u, r}, pt(5, 2), nil},
		{"outside, on an edge's line", list{l, b, u, r}, pt(5, 0), nil},
		{"outside, far away", list{l, b, u, r}, pt(far, far), nil},
		{"in a hole", list{l, u, r}, pt(2, 1), nil},
		{"at a hole's rim", list{l, u, r}, pt(1, 1), list{l}},
		{"at a hole's corner", list{r, l, u}, pt(2, 2), list{l, u, r}},
		{"where two touch", list{e, r, u, b, l}, pt(4, 4), list{u, r, e}},
		{"in one that stands apart", list{s, l, b}, pt(11, 1), list{s}},
		{"between those that stand apart", list{s, l, b}, pt(7, 1), nil},
		{"where some overlap", list{o, r, u, b, l}, pt(2, 2), list{l, b, u, o, r}},
		{"at a corner of one, on another one's edge", list{o, l, b}, pt(1, 1), list{l, b, o}},
		{"at a corner of two, on another one's edge", list{w, u, r}, pt(4, 4), list{u, r, w}},
	}
	for _, x := range rows {
		if got := At(made(t, x.in), x.p); !slices.Equal(got, x.want) {
			t.Errorf("P6.1 At, %s: %v, want %v", x.what, got, x.want)
		}
	}
}

func TestStarRows(t *testing.T) {
	rows := []struct {
		what   string
		in     list
		p      api.Point
		want   []api.Tri
		closed bool
	}{
		{"a corner within", list{r, u, b, l}, pt(2, 2), list{l, b, u, r}, true},
		{"a corner at the rim", list{r, u, b, l}, pt(4, 4), list{u, r}, false},
		{"the least corner", list{r, u, b, l}, pt(0, 0), list{l, b}, false},
		{"inside", list{l, b, u, r}, pt(2, 1), nil, false},
		{"on an edge within", list{l, b, u, r}, pt(1, 1), nil, false},
		{"on an edge at the rim", list{l, b, u, r}, pt(4, 2), nil, false},
		{"outside", list{l, b, u, r}, pt(9, 9), nil, false},
		{"where one is gone", list{u, b, l}, pt(2, 2), list{l, b, u}, false},
		{"where another one is gone", list{r, u, b}, pt(2, 2), list{b, u, r}, false},
		{"where two that touch are left", list{r, l}, pt(2, 2), list{l, r}, false},
		{"where one is left", list{b}, pt(2, 2), list{b}, false},
		{"where two touch", list{e, r, u, b, l}, pt(4, 4), list{u, r, e}, false},
		{"a corner within, and one that lies about it", list{o, r, u, b, l}, pt(2, 2), list{l, b, u, r}, true},
		{"a corner within, and one more at it", list{o, r, u, b, l, tr(2, 2, 9, 4, 9, 5)}, pt(2, 2), list{l, b, u, r, tr(2, 2, 9, 4, 9, 5)}, false},
		{"one on another one's edge", list{o, l, b}, pt(1, 1), list{o}, false},
		{"three all around", list{tr(0, 0, 6, 0, 2, 2), tr(0, 0, 2, 2, 0, 6), tr(0, 6, 2, 2, 6, 0)}, pt(2, 2),
			list{tr(0, 0, 2, 2, 0, 6), tr(0, 0, 6, 0, 2, 2), tr(0, 6, 2, 2, 6, 0)}, true},
	}
	for _, x := range rows {
		m := made(t, x.in)
		if got := Star(m, x.p); !slices.Equal(got, x.want) {
			t.Errorf("P6.1 Star, %s: %v, want %v", x.what, got, x.want)
		}
		if got := Closed(m, x.p); got != x.closed {
			t.Errorf("P6.1 Closed, %s: %v", x.what, got)
		}
	}
}

func TestTrailRows(t *testing.T) {
	all := list{r, u, b, l}
	rows := []struct {
		what string
		in   list
		p, q api.Point
		want []api.Tri
	}{
		{"along an edge within", all, pt(0, 0), pt(2, 2), list{l, b}},
		{"along a piece of it", all, pt(4, 4), pt(3, 3), list{u, r}},
		{"along an edge at the rim", all, pt(0, 0), pt(4, 0), list{b}},
		{"along a piece of it, and beyond", all, pt(4, 3), pt(4, 9), list{r}},
		{"along edges, through a corner", all, pt(0, 0), pt(4, 4), list{l, b, u, r}},
		{"and beyond an end", all, pt(9, 9), pt(0, 0), list{l, b, u, r}},
		{"through a corner, from inside to inside", all, pt(2, 0), pt(2, 4), list{b, u}},
		{"through a corner, and no further than it", all, pt(2, 2), pt(2, 0), list{b}},
		{"through the inside", all, pt(0, 1), pt(4, 1), list{l, b, r}},
		{"all of it inside one", all, pt(2, 1), pt(3, 1), list{b}},
		{"from the rim inward", all, pt(0, 1), pt(1, 1), list{l}},
		{"from an edge within to another one", all, pt(1, 1), pt(3, 1), list{b}},
		{"from outside in", all, pt(9, 1), pt(3, 1), list{r}},
		{"which touches a corner at the rim", all, pt(3, 5), pt(5, 3), nil},
		{"which begins at a corner, and leads away", all, pt(4, 4), pt(5, 4), nil},
		{"which goes on where an edge ends", all, pt(4, 0), pt(8, 0), nil},
		{"which touches an edge at the rim", all, pt(4, 2), pt(5, 2), nil},
		{"which passes by", all, pt(5, 0), pt(5, 4), nil},
		{"which lies in a hole, and touches its rim", list{r, u, l}, pt(1, 1), pt(3, 1), nil},
		{"over a hole", list{r, u, l}, pt(0, 1), pt(4, 1), list{l, r}},
		{"over to one that stands apart", list{s, r, l}, pt(0, 1), pt(12, 1), list{l, r, s}},
		{"through the corner where two touch", list{e, r, u}, pt(3, 3), pt(7, 7), list{u, r, e}},
		{"where some overlap", list{o, r, u, b, l}, pt(2, 2), pt(2, 3), list{u, o}},
		{"along the edge of one, at the corner of others", list{w, r, u}, pt(3, 5), pt(5, 3), list{w}},
	}
	for _, x := range rows {
		m := made(t, x.in)
		if got := Trail(m, x.p, x.q); !slices.Equal(got, x.want) {
			t.Errorf("P6.1 Trail %s: %v, want %v", x.what, got, x.want)
		}
		if got := Trail(m, x.q, x.p); !slices.Equal(got, x.want) {
			t.Errorf("P6.1 Trail %s, from the other end: %v, want %v", x.what, got, x.want)
		}
	}
}
