package walls

import (
	"math"
	"testing"

	"hectare/api"
)

func TestMakeRows(t *testing.T) {
	rows := []struct {
		what string
		a, b api.Point
		kind int
		want api.Wall
		ok   bool
	}{
		{"the lesser point first", pt(0, 0), pt(2, 0), api.Inner, in(0, 0, 2, 0), true},
		{"the lesser point last", pt(2, 0), pt(0, 0), api.Inner, in(0, 0, 2, 0), true},
		{"a border", pt(2, 0), pt(0, 7), api.Border, wl(0, 7, 2, 0, 2), true},
		{"upright", pt(3, 1), pt(3, 9), api.Inner, in(3, 1, 3, 9), true},
		{"upright, downwards", pt(3, 9), pt(3, 1), api.Border, wl(3, 1, 3, 9, 2), true},
		{"as long as may be", pt(far, far), pt(0, 0), api.Inner, in(0, 0, far, far), true},
		{"as short as may be", pt(far, far), pt(far, far-1), api.Inner, in(far, far-1, far, far), true},
		{"a point", pt(5, 5), pt(5, 5), api.Inner, api.Wall{}, false},
		{"the least point", pt(0, 0), pt(0, 0), api.Border, api.Wall{}, false},
		{"no kind", pt(0, 0), pt(2, 0), 0, api.Wall{}, false},
		{"one more than the kinds", pt(0, 0), pt(2, 0), 3, api.Wall{}, false},
		{"one below", pt(0, 0), pt(2, 0), -1, api.Wall{}, false},
		{"a kind far off", pt(0, 0), pt(2, 0), math.MaxInt, api.Wall{}, false},
		{"a kind far below", pt(0, 0), pt(2, 0), math.MinInt, api.Wall{}, false},
		{"a kind of 32 bits more", pt(0, 0), pt(2, 0), 1 + 1<<32, api.Wall{}, false},
	}
	for _, x := range rows {
		if got, ok := Make(x.a, x.b, x.kind); got != x.want || ok != x.ok {
			t.Errorf("P7.1 Make, %s: %v %v, want %v %v", x.what, got, ok, x.want, x.ok)
		}
	}
}

func TestCmpRows(t *testing.T) {
	// Rising: each one is below all that follow.
	rows := list{
		wl(math.MinInt, 9, 9, 9, 2), wl(-1, 9, 9, 9, 2),
		wl(0, 0, 0, 1, 1), wl(0, 0, 0, 1, 2), wl(0, 0, 0, 2, math.MinInt), wl(0, 0, 0, 2, 1),
		wl(0, 0, 1, math.MinInt, 7), wl(0, 0, 1, 0, 1), wl(0, 0, 1, 0, math.MaxInt), wl(0, 0, math.MaxInt, 0, 0),
		wl(0, 1, math.MinInt, 0, 0), wl(0, 1, 0, 0, 0), wl(0, 1, 0, 2, 1), wl(0, 1, 0, 2, 2), wl(0, 1, 3, 0, 1),
		wl(1, 0, 0, 0, 0), wl(1, 0, 1, 1, 1), wl(1, 0, 1, 1, 2), wl(far, far, 0, 0, 1),
		wl(math.MaxInt, math.MinInt, 0, 0, 0), wl(math.MaxInt, math.MaxInt, math.MaxInt, math.MaxInt, math.MaxInt),
	}
	for i, v := range rows {
		for j, w := range rows {
			want := 0
			if i < j {
				want = -1
			} else if i > j {
				want = 1
			}
			if got := Cmp(v, w); got != want {
				t.Errorf("P7.1 Cmp(%v, %v): %d, want %d", v, w, got, want)
			}
		}
	}
}

func TestNewRows(t *testing.T) {
	rows := []struct {
		what string
		l    list
		want api.Errno
	}{
		{"none", nil, api.OK},
		{"an empty list", list{}, api.OK},
		{"one", list{in(0, 0, 2, 0)}, api.OK},
		{"two with an end in common", list{in(2, 0, 2, 2), wl(0, 0, 2, 0, 2)}, api.OK},
		{"two on a line, with an end in common", list{in(2, 0, 4, 0), in(0, 0, 2, 0)}, api.OK},
		{"two on a line, apart", list{in(3, 0, 4, 0), in(0, 0, 2, 0)}, api.OK},
		{"a square and one way across", list{in(0, 4, 4, 4), in(4, 0, 4, 4), in(0, 0, 4, 0), in(0, 0, 0, 4), in(0, 4, 4, 0)}, api.OK},
		{"the greater point first", list{in(2, 0, 0, 0)}, api.Malformed},
		{"the upper point first", list{in(0, 2, 0, 0)}, api.Malformed},
		{"a point", list{in(2, 2, 2, 2)}, api.Malformed},
		{"no kind", list{wl(0, 0, 2, 0, 0)}, api.Malformed},
		{"one more than the kinds", list{wl(0, 0, 2, 0, 3)}, api.Malformed},
		{"beyond the grid", list{in(0, 0, far+1, 0)}, api.Malformed},
		{"ahead of the grid", list{in(-1, 0, 2, 0)}, api.Malformed},
		{"the same one twice", list{in(0, 0, 2, 0), in(0, 0, 2, 0)}, api.Have},
		{"twice, of two kinds", list{wl(0, 0, 2, 0, 2), in(0, 0, 2, 0)}, api.Have},
		{"twice, with others between", list{in(0, 0, 2, 0), in(0, 0, 0, 2), in(2, 0, 2, 2), in(0, 0, 2, 0)}, api.Have},
		{"a crossing", list{in(0, 0, 2, 2), in(0, 2, 2, 0)}, api.Cross},
		{"a crossing off the grid's points", list{in(0, 0, 3, 2), in(0, 1, 2, 0)}, api.Cross},
		{"an end on the other one", list{in(0, 0, 2, 0), in(1, 0, 1, 1)}, api.Cross},
		{"an end on the other one from below", list{in(0, 1, 2, 1), in(1, 0, 1, 1)}, api.Cross},
		{"an end on an upright one", list{in(1, 0, 1, 2), in(1, 1, 2, 1)}, api.Cross},
		{"a piece in common", list{in(0, 0, 2, 0), in(1, 0, 3, 0)}, api.Cross},
		{"one on the other, an end in common", list{in(0, 0, 2, 0), in(0, 0, 1, 0)}, api.Cross},
		{"one on the other, the other end in common", list{in(0, 0, 2, 2), in(1, 1, 2, 2)}, api.Cross},
		{"one within the other", list{in(0, 0, 3, 3), in(1, 1, 2, 2)}, api.Cross},
		{"upright, a piece in common", list{in(5, 1, 5, 4), in(5, 3, 5, 9)}, api.Cross},
		{"one that is long, and the last one", list{in(0, 0, 9, 0), in(1, 1, 2, 1), in(3, 1, 4, 1), in(8, 0, 8, 1)}, api.Cross},
		{"twice, and a crossing ahead of it", list{in(0, 0, 2, 2), in(0, 2, 2, 0), in(7, 7, 9, 9), in(7, 7, 9, 9)}, api.Have},
		{"twice, and a crossing after it", list{in(0, 0, 2, 2), in(0, 0, 2, 2), in(7, 7, 9, 9), in(7, 9, 9, 7)}, api.Have},
		{"a crossing, and what may not be", list{in(0, 0, 2, 2), in(0, 2, 2, 0), in(5, 5, 5, 5)}, api.Malformed},
		{"twice, and what may not be", list{in(0, 0, 2, 2), in(0, 0, 2, 2), wl(5, 5, 6, 6, 3)}, api.Malformed},
		{"what may not be, twice", list{in(2, 0, 0, 0), in(2, 0, 0, 0)}, api.Malformed},
	}
	for _, x := range rows {
		if s, e := New(x.l); e != x.want || (s != nil) != (e == api.OK) {
			t.Errorf("P7.1 New, %s: %v %d, want %d", x.what, s, e, x.want)
		}
	}
}

func TestClashRows(t *testing.T) {
	l := list{wl(4, 0, 4, 4, 2), in(0, 0, 4, 0), in(0, 4, 4, 4), in(6, 1, 9, 7)}
	rows := []struct {
		what string
		a, b api.Point
		want api.Errno
	}{
		{"there", pt(0, 0), pt(4, 0), api.Have},
		{"there, the other way round", pt(4, 4), pt(4, 0), api.Have},
		{"between two ends", pt(0, 0), pt(4, 4), api.OK},
		{"on from an end, on the line", pt(4, 0), pt(9, 0), api.OK},
		{"up from an end, on the line", pt(4, 4), pt(4, 9), api.OK},
		{"on its own", pt(1, 1), pt(3, 3), api.OK},
		{"near to one", pt(6, 2), pt(9, 8), api.OK},
		{"through one", pt(3, 2), pt(5, 2), api.Cross},
		{"through one, off the grid's points", pt(7, 2), pt(7, 5), api.Cross},
		{"through an end of one", pt(5, 0), pt(7, 2), api.Cross},
		{"through an end of two", pt(3, 5), pt(5, 3), api.Cross},
		{"from within one", pt(2, 0), pt(2, 2), api.Cross},
		{"up to one", pt(2, 2), pt(2, 4), api.Cross},
		{"from an end, along one", pt(0, 0), pt(3, 0), api.Cross},
		{"on one and beyond", pt(4, 2), pt(4, 7), api.Cross},
		{"one and more", pt(0, 0), pt(5, 0), api.Cross},
		{"within one", pt(1, 4), pt(3, 4), api.Cross},
		{"beyond the grid's end", pt(0, 0), pt(far+1, 0), api.Malformed},
		{"a point", pt(2, 0), pt(2, 0), api.Malformed},
		{"a point that is an end", pt(4, 4), pt(4, 4), api.Malformed},
	}
	s := made(t, l)
	for _, x := range rows {
		if got, back := s.Clash(x.a, x.b), s.Clash(x.b, x.a); got != x.want || back != x.want {
			t.Errorf("P7.2 Clash, %s: %d, and %d the other way, want %d", x.what, got, back, x.want)
		}
		if back := s.Add(api.Wall{A: told(x.a, x.b, 1).B, B: told(x.a, x.b, 1).A, Kind: 1}); back != api.Malformed {
			t.Errorf("P7.2 Add, %s, the greater point first: %d", x.what, back)
		}
		for kind := range 4 {
			want := x.want
			if kind != api.Inner && kind != api.Border {
				want = api.Malformed
			}
			other := made(t, l)
			if got := other.Add(told(x.a, x.b, kind)); got != want {
				t.Errorf("P7.2 Add, %s, kind %d: %d, want %d", x.what, kind, got, want)
			}
			after := l
			if want == api.OK {
				after = append(l[:4:4], told(x.a, x.b, kind))
			}
			hold(t, x.what, other, after, points(0, 2, 4, 9))
		}
	}
	hold(t, "after all", s, l, points(0, 1, 2, 3, 4, 5, 6))
}
