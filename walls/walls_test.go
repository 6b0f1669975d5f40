package walls

import (
	"slices"
	"testing"

	"hectare/api"
)

// made is a Set of walls that may be.
func made(t *testing.T, l list) *Set {
	t.Helper()
	s, e := New(l)
	if e != api.OK {
		t.Fatalf("New(%v): %d", l, e)
	}
	return s
}

// hold holds what a Set tells of some points, and between them, against a list.
func hold(t *testing.T, what string, s *Set, l list, near []api.Point) {
	t.Helper()
	if got, want := s.All(), l.all(); !slices.Equal(got, want) || s.Len() != len(want) {
		t.Fatalf("P7.1 %s: All %v, Len %d, want %v", what, got, s.Len(), want)
	}
	for _, p := range near {
		if got, want := s.At(p), l.at(p); !slices.Equal(got, want) {
			t.Fatalf("P7.2 %s: At(%v) of %v: %v, want %v", what, p, l, got, want)
		}
		want := append(l.on(p), api.Wall{})
		if len(want) > 2 {
			t.Fatalf("P7.3 %s: %v is on more than one of %v", what, p, l)
		}
		if got, ok := s.On(p); got != want[0] || ok != (len(want) == 2) {
			t.Fatalf("P7.2 %s: On(%v) of %v: %v %v, want %v", what, p, l, got, ok, want[0])
		}
		for _, q := range near {
			if got, want := s.Kind(p, q), l.kind(p, q); got != want {
				t.Fatalf("P7.1 %s: Kind(%v, %v) of %v: %d, want %d", what, p, q, l, got, want)
			}
			if got, want := s.Clash(p, q), l.clash(told(p, q, api.Inner)); got != want {
				t.Fatalf("P7.2 %s: Clash(%v, %v) of %v: %d, want %d", what, p, q, l, got, want)
			}
		}
	}
}

// TestChanges is that a Set is what was added and not removed, whatever was refused
// on the way.
func TestChanges(t *testing.T) {
	d := dice(7)
	near := points(0, 1, 2, 3, 4)
	count := map[api.Errno]int{}
	for range 80 {
		s, l := &Set{}, list(nil)
		for range 40 {
			a, b := d.point(5), d.point(5)
			if d.below(3) == 0 {
				want := api.None
				if l.kind(a, b) != 0 {
					want = api.OK
				}
				if got := s.Remove(a, b); got != want {
					t.Fatalf("P7.2 Remove(%v, %v) of %v: %d, want %d", a, b, l, got, want)
				}
				count[want]++
				l = l.those(func(w api.Wall) bool { return len(list{w}.between(a, b)) == 0 })
				continue
			}
			w := told(a, b, d.kind())
			want := l.clash(w)
			if got := s.Add(w); got != want {
				t.Fatalf("P7.2 Add(%v) to %v: %d, want %d", w, l, got, want)
			}
			count[want]++
			if want == api.OK {
				l = append(l, w)
			}
		}
		hold(t, "on the way", s, l, near)
		hold(t, "made anew", made(t, l), l, near[:3])
		if l.fault() != api.OK {
			t.Fatalf("P7.3 %v: %d", l, l.fault())
		}
	}
	for _, e := range []api.Errno{api.OK, api.Malformed, api.Have, api.Cross, api.None} {
		if count[e] < 20 {
			t.Errorf("%d was told %d times", e, count[e])
		}
	}
}

// TestNewRandom is of lists in whatever order, some of which may not be.
func TestNewRandom(t *testing.T) {
	d := dice(77)
	count := map[api.Errno]int{}
	for range 6000 {
		var l list
		size := 4 + d.below(20)
		for range d.below(7) {
			w := told(d.point(size), d.point(size), d.kind())
			if d.below(40) == 0 {
				w.A, w.B = w.B, w.A
			}
			if w.A != w.B || d.below(9) == 0 {
				l = append(l, w)
			}
			if d.below(20) == 0 {
				l = append(l, w)
			}
		}
		want := l.fault()
		count[want]++
		s, got := New(l)
		if got != want || (s != nil) != (got == api.OK) {
			t.Fatalf("P7.1 New(%v): %v %d, want %d", l, s, got, want)
		}
		if got == api.OK && !slices.Equal(s.All(), l.all()) {
			t.Fatalf("P7.1 New(%v): %v", l, s.All())
		}
	}
	for _, e := range []api.Errno{api.OK, api.Malformed, api.Have, api.Cross} {
		if count[e] < 100 {
			t.Errorf("%d was told %d times", e, count[e])
		}
	}
}

// TestFar is of walls that need all of the grid, or its ends.
func TestFar(t *testing.T) {
	near := append(points(0, 1, far-1, far), pt(far/2, far/2), pt(far/2+1, far/2+1), pt(far/2, far/2+1))
	for _, l := range []list{
		{in(0, 0, far, far)},
		{in(0, 0, far, far-1), wl(0, 1, far, far, 2)},
		{in(0, 0, far, far-1), in(0, 0, far-1, far), in(far-1, far, far, far)},
		{in(0, 0, far, 0), in(far, 0, far, far), in(0, far, far, far), in(0, 0, 0, far), in(0, far, far, 0)},
		{wl(0, 0, 1, 1, 2), in(1, 1, far-1, far-1), wl(far-1, far-1, far, far, 2)},
	} {
		s := made(t, l)
		hold(t, "far", s, l, near)
		for _, w := range l {
			if e := s.Remove(w.B, w.A); e != api.OK || s.Kind(w.A, w.B) != 0 {
				t.Errorf("P7.2 Remove(%v, %v) of %v: %d", w.B, w.A, l, e)
			}
			if e := s.Add(w); e != api.OK {
				t.Errorf("P7.2 Add(%v): %d", w, e)
			}
		}
		hold(t, "far, once more", s, l, near)
	}
	if _, e := New(list{in(0, 0, far, far-1), in(0, far-1, far, 0)}); e != api.Cross {
		t.Errorf("P7.1 New of two that cross, far: %d", e)
	}
}

// TestMany is of a great Set: all edges of a grid, but some.
func TestMany(t *testing.T) {
	const n, step = 40, 1000
	var l list
	for x := range n {
		for y := range n {
			l = append(l, in(x*step, y*step, x*step, (y+1)*step), in(x*step, y*step, (x+1)*step, y*step))
			if x%7 != y%5 {
				l = append(l, in(x*step, y*step, (x+1)*step, (y+1)*step))
			}
		}
	}
	slices.Reverse(l)
	hold(t, "many", made(t, l), l, []api.Point{pt(0, 0), pt(7000, 5000), pt(7500, 5500), pt(8000, 5000), pt(7000, 5001), pt(n*step, n*step)})
	if _, e := New(append(l, in(7000, 6000, 8000, 5000))); e != api.OK {
		t.Errorf("P7.1 New, with one more: %d", e)
	}
	if _, e := New(append(l, in(7000, 6000, 8001, 5000))); e != api.Cross {
		t.Errorf("P7.1 New, with one more that crosses: %d", e)
	}
}

// TestWrong is of points that are not Valid, and of walls that may not be.
func TestWrong(t *testing.T) {
	l := list{in(0, 0, 2, 2), wl(2, 0, 2, 2, 2), in(0, far, far, far)}
	s := made(t, l)
	for _, p := range strangers() {
		for _, q := range append(points(0, 2, far), strangers()...) {
			for kind := range 4 {
				v, ok := Make(p, q, kind)
				w, also := Make(q, p, kind)
				if ok || also || v != w || v != (api.Wall{}) {
					t.Errorf("P7.1 Make of %v and %v: %v %v, %v %v", p, q, v, ok, w, also)
				}
				if e := s.Add(told(p, q, kind)); e != api.Malformed {
					t.Errorf("P7.2 Add(%v): %d", told(p, q, kind), e)
				}
				if x, e := New(list{l[0], told(p, q, kind)}); x != nil || e != api.Malformed {
					t.Errorf("P7.1 New with %v: %v %d", told(p, q, kind), x, e)
				}
			}
			if e, f := s.Clash(p, q), s.Clash(q, p); e != api.Malformed || f != api.Malformed {
				t.Errorf("P7.2 Clash of %v and %v: %d, %d", p, q, e, f)
			}
			if e, f := s.Remove(p, q), s.Remove(q, p); e != api.None || f != api.None {
				t.Errorf("P7.2 Remove of %v and %v: %d, %d", p, q, e, f)
			}
		}
	}
	for _, p := range points(0, 1, 2, far) {
		if e := s.Remove(p, p); e != api.None {
			t.Errorf("P7.2 Remove(%v, %v): %d", p, p, e)
		}
	}
	hold(t, "after all", s, l, append(points(0, 1, 2), strangers()...))
}

// TestNone is of no walls, and of a nil Set.
func TestNone(t *testing.T) {
	near := append(strangers(), points(0, 1, far)...)
	empty := made(t, list{in(0, 0, 1, 1)})
	if e := empty.Remove(pt(1, 1), pt(0, 0)); e != api.OK {
		t.Errorf("P7.2 Remove of the only one: %d", e)
	}
	for name, s := range map[string]*Set{"none": made(t, nil), "zero": {}, "all gone": empty} {
		hold(t, name, s, nil, near)
		if e := s.Remove(pt(0, 0), pt(1, 1)); e != api.None {
			t.Errorf("P7.2 %s: Remove: %d", name, e)
		}
		if e := s.Add(in(0, 0, 1, 1)); e != api.OK || s.Len() != 1 {
			t.Errorf("P7.2 %s: Add: %d", name, e)
		}
	}
	var s *Set
	for _, p := range near {
		w, ok := s.On(p)
		if ok || w != (api.Wall{}) || len(s.At(p)) > 0 || len(s.All()) > 0 || s.Len() != 0 {
			t.Errorf("P7.2 nil: On(%v) %v %v, At %v, All %v, Len %d", p, w, ok, s.At(p), s.All(), s.Len())
		}
		for _, q := range near {
			if s.Kind(p, q) != 0 || s.Clash(p, q) != api.Malformed || s.Remove(p, q) != api.None || s.Add(told(p, q, 1)) != api.Malformed {
				t.Errorf("P7.2 nil: Kind %d, Clash %d, Remove %d, Add %d of %v and %v", s.Kind(p, q), s.Clash(p, q), s.Remove(p, q), s.Add(told(p, q, 1)), p, q)
			}
		}
	}
}

// TestCopy is that a Copy is the same, and that the two have nothing in common.
func TestCopy(t *testing.T) {
	l := list{in(0, 0, 4, 4), wl(0, 4, 1, 2, 2)}
	near := points(0, 1, 2, 4)
	s := made(t, l)
	c := s.Copy()
	hold(t, "a Copy", c, l, near)
	if e, f := c.Remove(pt(0, 0), pt(4, 4)), c.Add(in(0, 0, 1, 1)); e != api.OK || f != api.OK {
		t.Errorf("P7.2 Remove, Add of a Copy: %d, %d", e, f)
	}
	hold(t, "what a Copy was made of", s, l, near)
	hold(t, "a Copy, changed", c, list{in(0, 0, 1, 1), l[1]}, near)
	if e := s.Add(in(2, 1, 4, 1)); e != api.OK {
		t.Errorf("P7.2 Add: %d", e)
	}
	hold(t, "a Copy of what has changed", c, list{in(0, 0, 1, 1), l[1]}, near)
	var none *Set
	if none.Copy() != nil {
		t.Errorf("P7.2 a Copy of a nil Set")
	}
	hold(t, "a Copy of nothing", (&Set{}).Copy(), nil, near)
}

// TestExchange is that walls come in the place of others, and that all others stay.
func TestExchange(t *testing.T) {
	near := points(0, 1, 2, 4)
	stay := list{in(0, 4, 4, 4), wl(4, 0, 4, 2, 2)}
	for i, x := range []struct{ out, in list }{
		{nil, nil},
		{list{in(0, 0, 2, 2)}, list{in(0, 0, 1, 1), in(1, 1, 2, 2)}},
		{list{wl(0, 0, 1, 1, 2), wl(1, 1, 2, 2, 2)}, list{wl(0, 0, 2, 2, 2)}},
		{list{in(0, 0, 2, 2)}, list{wl(0, 0, 2, 2, 2)}},
		{list{in(0, 0, 2, 2), in(0, 1, 1, 2)}, list{in(0, 1, 1, 2), in(0, 2, 1, 4)}},
		{list{in(0, 0, 2, 2)}, nil},
		{nil, list{in(0, 0, 2, 2), in(0, 1, 1, 2)}},
		{list{in(0, 0, 2, 2)}, list{in(0, 0, 2, 2)}},
	} {
		s := made(t, append(slices.Clone(stay), x.out...))
		out, in := slices.Clone(x.out), slices.Clone(x.in)
		s.Exchange(out, in)
		hold(t, "Exchange", s, append(slices.Clone(stay), x.in...), near)
		if !slices.Equal(out, x.out) || !slices.Equal(in, x.in) {
			t.Errorf("P7.3 %d: Exchange changes what is handed in: %v, %v", i, out, in)
		}
	}
	var none *Set
	none.Exchange(stay, stay)
	if none.Len() != 0 {
		t.Errorf("P7.2 Exchange of a nil Set")
	}
}

// TestKept is that what is handed in is neither changed nor kept, that answers are new
// memory, and that Sets have nothing in common.
func TestKept(t *testing.T) {
	want := list{in(0, 0, 4, 0), in(0, 0, 4, 4), wl(4, 0, 4, 4, 2)}
	near := points(0, 2, 4)
	room := append(list{want[2], want[0], want[1]}, in(9, 9, 10, 10), in(8, 8, 9, 9))
	whole := slices.Clone(room)
	s := made(t, room[:3])
	other := made(t, room[:3])
	if e := s.Add(in(0, 4, 4, 4)); e != api.OK {
		t.Fatalf("Add: %d", e)
	}
	if e := s.Remove(pt(0, 4), pt(4, 4)); e != api.OK || !slices.Equal(room, whole) {
		t.Errorf("P7.3 what was handed in is changed: %v", room)
	}
	clear(room)
	hold(t, "what was handed in is cleared", s, want, near)
	for name, ask := range map[string]func() []api.Wall{
		"All": s.All,
		"At":  func() []api.Wall { return s.At(pt(4, 4)) },
	} {
		one, two := ask(), ask()
		kept := slices.Clone(two)
		if len(kept) < 2 {
			t.Fatalf("%s: %v", name, kept)
		}
		clear(one[:cap(one)])
		if again := ask(); !slices.Equal(two, kept) || !slices.Equal(again, kept) {
			t.Errorf("P7.3 %s: answers share memory: %v and %v, want %v", name, two, again, kept)
		}
		hold(t, name, s, want, near)
	}
	all := s.All()
	if e := s.Remove(pt(0, 0), pt(4, 0)); e != api.OK || !slices.Equal(all, want) {
		t.Errorf("P7.3 an answer changes with the Set: %v, want %v", all, want)
	}
	hold(t, "another Set", other, want, near)
}
