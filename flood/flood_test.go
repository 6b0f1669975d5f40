package flood

import (
	"math"
	"slices"
	"testing"

	"hectare/api"
	"hectare/mesh"
	"hectare/plain"
	"hectare/walls"
)

// kinds is the two that walls have, and others.
func kinds() []int {
	return []int{math.MinInt, -1, 0, api.Inner, api.Border, 3, math.MaxInt}
}

// hold holds what hangs together in a mesh against a list and a row, of all kinds, and that
// neither the Mesh nor the Set is changed by it.
func hold(t *testing.T, what string, m *mesh.Mesh, s *walls.Set, l list, row []api.Wall) {
	t.Helper()
	for _, kind := range kinds() {
		want := parts(l, row, kind)
		if got := Parts(m, s, kind); !same(got, want) {
			t.Fatalf("P13.1 %s: Parts(%d) of %v with %v: %v, want %v", what, kind, l, row, got, want)
		}
		count := 0
		for _, part := range want {
			count += len(part)
			for _, u := range part {
				if got := From(m, s, kind, u); !slices.Equal(got, part) {
					t.Fatalf("P13.1 %s: From(%d, %v) of %v with %v: %v, want %v", what, kind, u, l, row, got, part)
				}
			}
		}
		if count != len(l) {
			t.Fatalf("P13.2 %s: %d of %d triangles are in parts", what, count, len(l))
		}
	}
	if got := m.Tris(); !slices.Equal(got, ordered(l)) {
		t.Fatalf("P13.2 %s: the Mesh is changed: %v, want %v", what, got, l)
	}
	risen := slices.Clone(row)
	slices.SortFunc(risen, plain.Rising)
	if got := s.All(); !slices.Equal(got, risen) {
		t.Fatalf("P13.2 %s: the Set is changed: %v, want %v", what, got, risen)
	}
}

// TestRandom is of squares that are cut at points, with walls of both kinds, some edges and
// some not; of what is left of these when some go; and of heaps.
func TestRandom(t *testing.T) {
	d := plain.Dice(13)
	most, of := 0, map[int]int{}
	for range 120 {
		w, h := 1+d.Below(6), 1+d.Below(6)
		ps := d.Points(w, h, d.Below(12))
		row := slices.DeleteFunc(d.Walls(nil, w, h, 60), func(v api.Wall) bool { return len(plain.Stops(ps, v.A, v.B)) != 2 })
		l := plain.Cut(ps, row)
		hold(t, "a square", made(t, l), fixed(t, row), l, row)
		for _, kind := range []int{api.Inner, api.Border} {
			n := len(parts(l, row, kind))
			of[kind] += n
			most = max(most, n)
		}
		others := d.Walls(row, w, h, 10)
		hold(t, "one with walls that are no edges", made(t, l), fixed(t, others), l, others)
		left := slices.DeleteFunc(slices.Clone(l), func(api.Tri) bool { return d.Below(3) == 0 })
		hold(t, "one with holes", made(t, left), fixed(t, row), left, row)
		heap := d.Heap(left, w, h, 20)
		hold(t, "a heap", made(t, heap), fixed(t, others), heap, others)
	}
	if most < 5 || of[api.Border] < 160 || of[api.Inner] < of[api.Border]+50 {
		t.Errorf("too few parts: %v, %d at most", of, most)
	}
}

// TestChanges is that what hangs together is that of the Mesh and the Set as they stand.
func TestChanges(t *testing.T) {
	d := plain.Dice(1313)
	l := plain.Cut(d.Points(5, 5, 12), nil)
	m, s := made(t, l), fixed(t, nil)
	for range 150 {
		l = m.Tris()
		u := l[d.Below(len(l))]
		v := plain.Sides(u)[d.Below(3)]
		switch d.Below(4) {
		case 0:
			s.Remove(v[0], v[1])
		case 1:
			if s.Kind(v[0], v[1]) == 0 {
				m.Flip(v[0], v[1])
			}
		default:
			on := plain.Between(v[0], v[1])
			s.Add(api.Wall{A: on.A, B: on.B, Kind: 1 + d.Below(2)})
		}
		hold(t, "on the way", m, s, m.Tris(), s.All())
	}
	if n := len(Parts(m, s, api.Inner)); n < 2 {
		t.Errorf("the way ends with %d parts", n)
	}
}

// TestFar is of squares as great as the grid.
func TestFar(t *testing.T) {
	const far = plain.Far
	ps := []api.Point{pt(0, 0), pt(0, far), pt(far, 0), pt(far, far), pt(far-1, far-2), pt(1, 2), pt(far/2, far)}
	slices.SortFunc(ps, plain.Order)
	row := []api.Wall{wl(0, 0, far-1, far-2, 1), wl(far-1, far-2, far, far, 2), wl(0, far, 1, 2, 2), wl(far/2, far, far-1, far-2, 1)}
	for n := range len(row) + 1 {
		l := plain.Cut(ps, row[:n])
		hold(t, "all of the grid", made(t, l), fixed(t, row[:n]), l, row[:n])
	}
}

// TestNone is of no triangles and of no walls, and of triangles that are not there.
func TestNone(t *testing.T) {
	l := list{tr(0, 0, 4, 0, 4, 4), tr(0, 0, 4, 4, 0, 4)}
	m, s := made(t, l), fixed(t, []api.Wall{wl(0, 0, 4, 4, 2)})
	gone := made(t, l)
	if e := gone.Replace(l, nil); e != api.OK {
		t.Fatalf("Replace: %d", e)
	}
	for name, none := range map[string]*mesh.Mesh{"nil": nil, "none": made(t, nil), "zero": {}, "all gone": gone} {
		hold(t, name, none, s, nil, s.All())
		hold(t, name, none, nil, nil, nil)
		if got := From(none, s, api.Inner, l[0]); len(got) > 0 {
			t.Errorf("P13.1 %s: From(%v): %v", name, l[0], got)
		}
	}
	for name, none := range map[string]*walls.Set{"nil": nil, "none": fixed(t, nil), "zero": {}} {
		hold(t, name, m, none, l, nil)
	}
	for _, u := range []api.Tri{
		{},
		tr(4, 0, 4, 4, 0, 0), tr(4, 4, 0, 0, 4, 0), tr(0, 0, 4, 4, 4, 0), // one that is there, told in another way
		tr(0, 0, 4, 0, 0, 4), tr(0, 0, 4, 0, 4, 3), tr(1, 0, 4, 0, 4, 4), // others, on edges that are there
		tr(5, 5, 6, 5, 6, 6), tr(-1, -1, 4, 0, 4, 4), tr(0, 0, 4, 0, 4, plain.Far+1),
		tr(0, 0, 4, 4, 4, 4), tr(math.MinInt, 0, math.MaxInt, 0, 0, math.MaxInt),
	} {
		for _, kind := range kinds() {
			if got := From(m, s, kind, u); len(got) > 0 {
				t.Errorf("P13.1 From(%d, %v), which is not there: %v", kind, u, got)
			}
		}
	}
}

// TestMany is of as many triangles as a map may have, at no edge with a wall, at some, and
// at each: it takes a moment, not minutes.
func TestMany(t *testing.T) {
	const n = 140
	var l list
	var edges, snake []api.Wall
	for x := range n {
		for y := range n {
			l = append(l, tr(x, y, x+1, y, x+1, y+1), tr(x, y, x+1, y+1, x, y+1))
			edges = append(edges, wl(x, y, x, y+1, 2), wl(x, y, x+1, y, 1), wl(x, y, x+1, y+1, 2))
			// Each row of squares is closed to the next one but at one end.
			if end := (n - 1) * (y % 2); y > 0 && x != end {
				snake = append(snake, wl(x, y, x+1, y, 1))
			}
		}
	}
	m := made(t, l)
	for _, r := range []struct {
		what        string
		row         []api.Wall
		kind, count int
	}{
		{"no walls", nil, api.Inner, 1},
		{"one long way", snake, api.Inner, 1},
		{"one long way, without its borders", snake, api.Border, 1},
		{"walls all about", edges, api.Inner, 2 * n * n},
		{"walls of two kinds, of which the border parts", edges, api.Border, n + n*n},
	} {
		s := fixed(t, r.row)
		all := Parts(m, s, r.kind)
		if len(all) != r.count {
			t.Errorf("P13.1 %s: %d parts, want %d", r.what, len(all), r.count)
			continue
		}
		var back, firsts list
		for _, part := range all {
			back, firsts = append(back, part...), append(firsts, part[0])
			if !slices.Equal(part, ordered(part)) {
				t.Fatalf("P13.1 %s: a part is out of order: %v", r.what, part)
			}
		}
		if !slices.Equal(firsts, ordered(firsts)) {
			t.Errorf("P13.1 %s: parts are out of order", r.what)
		}
		if !slices.Equal(ordered(back), m.Tris()) {
			t.Errorf("P13.2 %s: %d triangles of %d", r.what, len(back), m.Len())
		}
		last := all[len(all)-1]
		if got := From(m, s, r.kind, last[len(last)-1]); !slices.Equal(got, last) {
			t.Errorf("P13.1 %s: From is of %d, want %d", r.what, len(got), len(last))
		}
	}
}
