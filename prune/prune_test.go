package prune

import (
	"slices"
	"testing"

	"hectare/api"
	"hectare/fence"
	"hectare/flip"
	"hectare/grow"
	"hectare/plain"
)

// shut tells whether a point is a corner, and each edge there one of two triangles.
func shut(l list, p api.Point) bool {
	es := l.Edges()
	for e, n := range es {
		if (e.A == p || e.B == p) && n != 2 {
			return false
		}
	}
	return slices.Contains(l.Points(), p)
}

// loose tells whether walls need no point: none ends there, or two do that could be one.
func loose(row []api.Wall, p api.Point) bool {
	var ends []api.Point
	kinds := map[int]int{}
	for _, v := range row {
		if v.A == p || v.B == p {
			ends = append(ends, v.A, v.B)
			kinds[v.Kind]++
		}
	}
	ends = slices.DeleteFunc(ends, func(q api.Point) bool { return q == p })
	return len(ends) == 0 || len(ends) == 2 && len(kinds) == 1 && plain.Within(p, ends[0], ends[1])
}

// merged is walls that do not need a point, without it.
func merged(row []api.Wall, p api.Point) []api.Wall {
	var l []api.Wall
	var one api.Wall
	for _, v := range row {
		switch p {
		case v.A:
			one.B, one.Kind = v.B, v.Kind
		case v.B:
			one.A = v.A
		default:
			l = append(l, v)
		}
	}
	if one.Kind != 0 {
		l = append(l, one)
	}
	slices.SortFunc(l, plain.Rising)
	return l
}

// leave takes one point out of a mesh, and holds what comes of it against the plain
// reckoning.
func leave(t *testing.T, l list, row []api.Wall, p api.Point) api.Errno {
	t.Helper()
	m, s := made(t, l), fixed(t, row)
	want, tris, all := api.OK, list(m.Tris()), row
	switch {
	case !slices.Contains(l.Points(), p):
		want = api.None
	case !shut(l, p) || !loose(row, p):
		want = api.Pinned
	default:
		all = merged(row, p)
		tris = only(t, plain.Without(l.Points(), p), all)
	}
	if got := Free(m, s, p); got != (want == api.OK) {
		t.Fatalf("P11.1 Free(%v) of %v with %v: %v", p, l, row, got)
	}
	if e := Point(m, s, p); e != want {
		t.Fatalf("P11.1 Point(%v) of %v with %v: %d, want %d", p, l, row, e, want)
	}
	if !slices.Equal(s.All(), all) {
		t.Fatalf("P11.1 Point(%v) of %v with %v: walls %v, want %v", p, l, row, s.All(), all)
	}
	if !slices.Equal(m.Tris(), tris) {
		t.Fatalf("P11.2 Point(%v) of %v with %v: %v, want %v", p, l, row, m.Tris(), tris)
	}
	return want
}

// fall takes one wall out of a mesh, likewise.
func fall(t *testing.T, l list, row []api.Wall, a, b api.Point) api.Errno {
	t.Helper()
	m, s := made(t, l), fixed(t, row)
	want, tris, all := api.None, list(m.Tris()), row
	for _, v := range row {
		if plain.Between(v.A, v.B) == plain.Between(a, b) {
			want, all = api.OK, plain.Without(row, v)
			tris = only(t, l.Points(), all)
		}
	}
	if e := Wall(m, s, a, b); e != want {
		t.Fatalf("P11.1 Wall(%v, %v) of %v with %v: %d, want %d", a, b, l, row, e, want)
	}
	if !slices.Equal(s.All(), all) {
		t.Fatalf("P11.1 Wall(%v, %v) of %v with %v: walls %v, want %v", a, b, l, row, s.All(), all)
	}
	if !slices.Equal(m.Tris(), tris) {
		t.Fatalf("P11.2 Wall(%v, %v) of %v with %v: %v, want %v", a, b, l, row, m.Tris(), tris)
	}
	return want
}

// fenced is some walls that may be beside each other, along ways between some points, some
// of them over others of these. Of a way, most are of one kind.
func fenced(d *plain.Dice, ps []api.Point, tries int) []api.Wall {
	var row []api.Wall
	for range tries {
		parts := plain.Stops(ps, ps[d.Below(len(ps))], ps[d.Below(len(ps))])
		kind := api.Inner + d.Below(2)
		for i := range len(parts) - 1 {
			e := plain.Between(parts[i], parts[i+1])
			if slices.ContainsFunc(row, func(v api.Wall) bool { return plain.Meet(e, plain.Between(v.A, v.B)) }) {
				break
			}
			if d.Below(8) == 0 {
				kind = api.Inner + api.Border - kind
			}
			row = append(row, api.Wall{A: e.A, B: e.B, Kind: kind})
		}
	}
	slices.SortFunc(row, plain.Rising)
	return row
}

// TestAll is of all points of small squares, whether these are corners or not, and of all
// ways between them, in meshes that are cut well or not.
func TestAll(t *testing.T) {
	d := plain.Dice(11)
	points, ways := map[api.Errno]int{}, map[api.Errno]int{}
	on := 0
	for i := range 600 {
		w, h := 1+d.Below(8), 1+d.Below(8)
		ps := d.Points(w, h, d.Below(22))
		row := fenced(&d, ps, i%4*2)
		l := d.Stir(only(t, ps, row), row, i%3*30)
		for x := range w + 2 {
			for y := range h + 2 {
				e := leave(t, l, row, pt(x, y))
				points[e]++
				if e == api.OK && len(merged(row, pt(x, y))) < len(row) {
					on++
				}
				q := ps[d.Below(len(ps))]
				ways[fall(t, l, row, pt(x, y), q)]++
			}
		}
		for j, v := range row {
			if j%2 == 0 {
				v.A, v.B = v.B, v.A
			}
			ways[fall(t, l, row, v.A, v.B)]++
		}
	}
	if points[api.OK] < 400 || points[api.Pinned] < 1000 || points[api.None] < 2000 || on < 30 {
		t.Errorf("too few points of some: %v, %d", points, on)
	}
	if ways[api.OK] < 500 || ways[api.None] < 2000 {
		t.Errorf("too few walls of some: %v", ways)
	}
}

// TestEnds is likewise of squares as great as the grid, so that hardly any three points
// are on one line.
func TestEnds(t *testing.T) {
	d := plain.Dice(111)
	count := map[api.Errno]int{}
	for range 30 {
		ps := d.Points(plain.Far-d.Below(2), plain.Far-d.Below(2), 10)
		row := fenced(&d, ps, 5)
		l := d.Stir(only(t, ps, row), row, 40)
		for _, p := range ps {
			count[leave(t, l, row, p)]++
		}
		for _, v := range row {
			fall(t, l, row, v.A, v.B)
		}
	}
	if count[api.OK] < 80 || count[api.Pinned] < 80 {
		t.Errorf("too few of some: %v", count)
	}
}

// TestHoles is that a hole is filled, ahead of all repair, by triangles of its corners,
// and that a wall that becomes one is an edge of them, however the mesh is cut.
func TestHoles(t *testing.T) {
	d := plain.Dice(1111)
	most, on := 0, 0
	for i := range 400 {
		w, h := 3+d.Below(6), 3+d.Below(6)
		ps := d.Points(w, h, 6+d.Below(14))
		row := fenced(&d, ps, i%3*4)
		l := d.Stir(only(t, ps, row), row, 20+d.Below(100))
		m := made(t, l)
		for _, p := range ps {
			if !shut(l, p) || !loose(row, p) {
				continue
			}
			star := list(slices.DeleteFunc(slices.Clone(l), func(u api.Tri) bool { return u.A != p && u.B != p && u.C != p }))
			ends := slices.DeleteFunc(slices.Clone(row), func(v api.Wall) bool { return v.A != p && v.B != p })
			in, ok := fill(m, star, p, ends)
			if !ok || list(in).Area() != star.Area() || !slices.Equal(list(in).Points(), plain.Without(star.Points(), p)) {
				t.Fatalf("P11.1 the hole at %v of %v: %v, %v", p, l, in, ok)
			}
			if e := made(t, l).Replace(star, in); e != api.OK {
				t.Fatalf("P11.2 the hole at %v of %v: %v does not fit", p, l, in)
			}
			if len(ends) == 2 {
				on++
				if v := merged(ends, p)[0]; list(in).Edges()[plain.Between(v.A, v.B)] != 2 {
					t.Fatalf("P11.1 the hole at %v of %v: %v is no edge of %v", p, l, v, in)
				}
			}
			most = max(most, len(star))
		}
	}
	if most < 10 || on < 40 {
		t.Errorf("holes of up to %d, %d on walls", most, on)
	}
}

// TestWhole is that all that came can go, in whatever order: then it is as it was, and on
// the way there as if what is gone had never come.
func TestWhole(t *testing.T) {
	d := plain.Dice(11111)
	for i := range 40 {
		w, h := 2+d.Below(7), 2+d.Below(7)
		ps := d.Points(w, h, 4+d.Below(10))
		row := fenced(&d, ps, i%3*4)
		l := d.Stir(only(t, ps, row), row, 20)
		m, s := made(t, l), fixed(t, row)
		for range 200 {
			if len(row) > 0 && d.Below(3) == 0 {
				v := row[d.Below(len(row))]
				if e := Wall(m, s, v.B, v.A); e != api.OK {
					t.Fatalf("P11.1 Wall(%v) of %v with %v: %d", v, ps, row, e)
				}
				row = plain.Without(row, v)
			}
			p := ps[d.Below(len(ps))]
			if Point(m, s, p) != api.OK {
				continue
			}
			ps, row = plain.Without(ps, p), merged(row, p)
			if want := only(t, ps, row); !slices.Equal(m.Tris(), want) || !slices.Equal(s.All(), row) {
				t.Fatalf("P11.2 %v with %v: %v with %v, want %v", ps, row, m.Tris(), s.All(), want)
			}
		}
		if m.Len() != len(ps)*2-2-rim(ps, w, h) || len(ps) != rim(ps, w, h) {
			t.Errorf("P11.2 %d by %d: %v is left", w, h, ps)
		}
	}
}

// rim is how many of some points are on the rim of a square.
func rim(ps []api.Point, w, h int) int {
	n := 0
	for _, p := range ps {
		if p.X == 0 || p.X == w || p.Y == 0 || p.Y == h {
			n++
		}
	}
	return n
}

// TestBack is that points and walls that come and go leave no trace, in whatever order
// they come and go, whether the points come to walls or the walls to points.
func TestBack(t *testing.T) {
	d := plain.Dice(111111)
	split := 0
	for i := range 150 {
		w, h := 2+d.Below(8), 2+d.Below(8)
		ps := d.Points(w, h, d.Below(10))
		row := fenced(&d, ps, i%4*3)
		tris := only(t, ps, row)
		m, s := made(t, tris), fixed(t, row)
		var came []api.Point
		for range 10 {
			p := pt(1+d.Below(w-1), 1+d.Below(h-1))
			if grow.Point(m, s, p) == api.OK {
				came = append(came, p)
			}
		}
		split += s.Len() - len(row)
		l := m.Points()
		var parts []plain.Line
		for range 6 {
			a, b := l[d.Below(len(l))], l[d.Below(len(l))]
			if fence.Wall(m, s, a, b, api.Inner) == api.OK {
				stops, _ := fence.Parts(m, a, b)
				for j, q := range stops[1:] {
					parts = append(parts, plain.Line{A: stops[j], B: q})
				}
			}
		}
		for _, v := range plain.Mix(&d, parts) {
			if e := Wall(m, s, v.A, v.B); e != api.OK {
				t.Fatalf("P11.2 Wall(%v) of %v with %v: %d", v, m.Tris(), s.All(), e)
			}
		}
		for _, p := range plain.Mix(&d, came) {
			if e := Point(m, s, p); e != api.OK {
				t.Fatalf("P11.2 Point(%v) of %v with %v: %d", p, m.Tris(), s.All(), e)
			}
		}
		if !slices.Equal(m.Tris(), tris) || !slices.Equal(s.All(), row) {
			t.Fatalf("P11.2 %v with %v: %v with %v", tris, row, m.Tris(), s.All())
		}
	}
	if split < 40 {
		t.Errorf("%d walls split", split)
	}
}

// TestHeaps is that the calls end for meshes of whatever triangles, and walls wherever,
// that they tell the same twice, and that an error changes nothing.
func TestHeaps(t *testing.T) {
	d := plain.Dice(1111111)
	count := map[api.Errno]int{}
	for i := range 400 {
		w, h := 3+d.Below(4), 3+d.Below(4)
		ps := d.Points(w, h, 4+d.Below(20))
		row := fenced(&d, ps, i%3*2)
		l := d.Stir(only(t, ps, row), row, 20)
		for range i % 3 {
			l = plain.Without(l, l[d.Below(len(l))])
		}
		l = d.Heap(l, w, h, i%4*20)
		row = d.Walls(row, w, h, d.Below(4))
		for _, p := range l.Points() {
			heap(t, l, row, p, count)
		}
		m, set := made(t, l), fixed(t, row)
		for j, v := range row {
			if e := Wall(m, set, v.A, v.B); e != api.OK || set.Len() != len(row)-1-j {
				t.Fatalf("P11.1 Wall(%v) of %v with %v: %d", v, l, row, e)
			}
		}
	}
	if count[api.OK] < 200 || count[api.Pinned] < 2000 {
		t.Errorf("heaps: %v", count)
	}
}

// heap takes one point out of whatever triangles, twice.
func heap(t *testing.T, l list, row []api.Wall, p api.Point, count map[api.Errno]int) {
	t.Helper()
	m, s := made(t, l), fixed(t, row)
	tris := m.Tris()
	free, e := Free(m, s, p), Point(m, s, p)
	count[e]++
	if free != (shut(l, p) && loose(row, p)) || e == api.OK && !free {
		t.Fatalf("P11.1 Free(%v) of %v with %v: %v, then %d", p, l, row, free, e)
	}
	if e != api.OK && (e != api.Pinned || !slices.Equal(m.Tris(), tris) || !slices.Equal(s.All(), row)) {
		t.Fatalf("P11.1 Point(%v) of %v with %v: %d, and changes it", p, l, row, e)
	}
	back := slices.Clone(l)
	slices.Reverse(back)
	n, again := made(t, back), fixed(t, row)
	if f := Point(n, again, p); f != e || !slices.Equal(n.Tris(), m.Tris()) || !slices.Equal(again.All(), s.All()) {
		t.Fatalf("P11.1 Point(%v) of %v with %v: %d, then %d", p, l, row, e, f)
	}
}

// TestTwice is of a point that triangles go around twice, one above the other, or in two
// rounds: the calls end, and what can't be filled stays.
func TestTwice(t *testing.T) {
	mid := pt(8, 8)
	one := []api.Point{pt(16, 8), pt(8, 16), pt(0, 8), pt(8, 0)}
	two := []api.Point{pt(14, 10), pt(6, 14), pt(2, 6), pt(10, 2)}
	round := func(ps ...api.Point) list {
		var l list
		for i, p := range ps {
			u, ok := plain.Told(mid, p, ps[(i+1)%len(ps)])
			if !ok {
				t.Fatalf("no triangle: %v, %v", ps, p)
			}
			l = append(l, u)
		}
		return l
	}
	for what, l := range map[string]list{
		"above":      round(append(slices.Clone(one), two...)...),
		"two rounds": append(round(one...), round(two...)...),
	} {
		for _, row := range [][]api.Wall{nil, {wl(0, 8, 8, 8, 1), wl(8, 8, 16, 8, 1)}} {
			m, s := made(t, l), fixed(t, row)
			if !Free(m, s, mid) {
				t.Errorf("P11.1 Free, %s: false", what)
			}
			if e := Point(m, s, mid); e != api.Pinned || m.Len() != len(l) || !slices.Equal(s.All(), row) {
				t.Errorf("P11.1 Point, %s: %d, %v", what, e, m.Tris())
			}
		}
	}
}

// TestMany is of a point amid a great many, without walls and with one through it.
func TestMany(t *testing.T) {
	const n = 500
	d := plain.Dice(11111111)
	mid, left, right := pt(plain.Far/2, plain.Far/2), pt(0, plain.Far/2), pt(plain.Far, plain.Far/2)
	rim := []api.Point{pt(0, 0), pt(plain.Far, 0), pt(plain.Far, plain.Far), pt(0, plain.Far), left, right}
	for range n {
		x := 1 + d.Below(plain.Far-1)
		rim = append(rim, pt(x, 0), pt(plain.Far, x), pt(x, plain.Far), pt(0, x))
	}
	// Round to the left, from the least corner on: its lower and its right side first.
	slices.SortFunc(rim, func(p, q api.Point) int { return turn(p) - turn(q) })
	rim = slices.Compact(rim)
	var l list
	for i, p := range rim {
		u, _ := plain.Told(mid, p, rim[(i+1)%len(rim)])
		l = append(l, u)
	}
	for _, row := range [][]api.Wall{nil, {{A: left, B: mid, Kind: 2}, {A: mid, B: right, Kind: 2}}} {
		m, s := made(t, l), fixed(t, row)
		if e := Point(m, s, mid); e != api.OK || !flip.Good(m, s) || !slices.Equal(s.All(), merged(row, mid)) {
			t.Errorf("P11.1 Point of many: %d, %v", e, s.All())
		}
		now := list(m.Tris())
		if len(now) != len(rim)-2 || now.Area() != l.Area() || !slices.Equal(now.Points(), slices.SortedFunc(slices.Values(rim), plain.Order)) {
			t.Errorf("P11.2 Point of many: %d triangles of %d points", len(now), len(rim))
		}
		if row != nil && now.Edges()[plain.Between(left, right)] != 2 {
			t.Errorf("P11.1 Point of many: the wall is no edge")
		}
	}
}

// turn is how plain.Far round the grid's rim a point of it is.
func turn(p api.Point) int {
	switch {
	case p.Y == 0:
		return p.X
	case p.X == plain.Far:
		return plain.Far + p.Y
	case p.Y == plain.Far:
		return 3*plain.Far - p.X
	}
	return 4*plain.Far - p.Y
}
