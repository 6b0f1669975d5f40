package fence

import (
	"slices"
	"testing"

	"hectare/api"
	"hectare/flip"
	"hectare/grow"
	"hectare/mesh"
	"hectare/walls"
)

// walled is what a wall that may be makes of a row.
func walled(row []api.Wall, parts []api.Point, kind int) []api.Wall {
	row = slices.Clone(row)
	for i := range len(parts) - 1 {
		e := between(parts[i], parts[i+1])
		row = append(row, api.Wall{A: e.a, B: e.b, Kind: kind})
	}
	slices.SortFunc(row, rising)
	return row
}

// refusal is what Wall is to tell of two Valid points, corners or not.
func refusal(ps []api.Point, row []api.Wall, a, b api.Point) api.Errno {
	if a == b {
		return api.Malformed
	}
	parts := stops(ps, a, b)
	if parts == nil {
		return api.None
	}
	for i := range len(parts) - 1 {
		if e := clash(row, parts[i], parts[i+1]); e != api.OK {
			return e
		}
	}
	return api.OK
}

// hold puts one wall into a mesh, and holds what comes of it against the plain reckoning.
func hold(t *testing.T, l list, row []api.Wall, a, b api.Point, kind int) api.Errno {
	t.Helper()
	m, s, ps := made(t, l), fixed(t, row), l.points()
	want, tris, all := refusal(ps, row, a, b), list(m.Tris()), s.All()
	if want == api.OK {
		all = walled(row, stops(ps, a, b), kind)
		tris = only(t, ps, all)
	}
	if e := Wall(m, s, a, b, kind); e != want {
		t.Fatalf("P10.1 Wall(%v, %v, %d) of %v with %v: %d, want %d", a, b, kind, l, row, e, want)
	}
	if !slices.Equal(s.All(), all) {
		t.Fatalf("P10.1 Wall(%v, %v, %d) of %v with %v: walls %v, want %v", a, b, kind, l, row, s.All(), all)
	}
	if !slices.Equal(m.Tris(), tris) {
		t.Fatalf("P10.1 Wall(%v, %v, %d) of %v with %v: %v, want %v", a, b, kind, l, row, m.Tris(), tris)
	}
	return want
}

// fenced is some walls that may be beside each other, between some points.
func (d *dice) fenced(ps []api.Point, tries int) []api.Wall {
	var row []api.Wall
	for range tries {
		a, b := ps[d.below(len(ps))], ps[d.below(len(ps))]
		if refusal(ps, row, a, b) == api.OK {
			row = walled(row, stops(ps, a, b), api.Inner+d.below(2))
		}
	}
	return row
}

// TestAll is of all ways between the points of small squares, whether these are corners
// or not, with walls and without, in meshes that are cut well or not.
func TestAll(t *testing.T) {
	d := dice(10)
	count := map[api.Errno]int{}
	for i := range 45 {
		w, h := 1+d.below(6), 1+d.below(6)
		ps := d.points(w, h, d.below(13))
		row := d.fenced(ps, i%3*3)
		l := d.stirred(t, only(t, ps, row), row, i%4*30)
		for x := range (w + 1) * (h + 1) {
			for y := range (w + 1) * (h + 1) {
				a, b := pt(x/(h+1), x%(h+1)), pt(y/(h+1), y%(h+1))
				count[hold(t, l, row, a, b, api.Inner+(x+y)%2)]++
			}
		}
	}
	for _, e := range []api.Errno{api.OK, api.Malformed, api.None, api.Have, api.Cross} {
		if count[e] < 200 {
			t.Errorf("too few of some: %v", count)
		}
	}
}

// TestClear is that just the edges that cross a way are flipped away, however the mesh is
// cut: on the way to it no other one goes.
func TestClear(t *testing.T) {
	d := dice(1010)
	count := map[string]int{}
	try := func(l list, a, b api.Point) {
		m := made(t, l)
		way{a, b}.clear(m)
		now := list(m.Tris())
		then, e := now.edges(), between(a, b)
		crossed := 0
		for f := range l.edges() {
			if f != e && meet(e, f) {
				crossed++
			} else if then[f] == 0 {
				t.Fatalf("P10.1 clear from %v to %v of %v: %v went", a, b, l, f)
			}
		}
		if then[e] == 0 {
			t.Fatalf("P10.2 clear from %v to %v of %v: no edge: %v", a, b, l, now)
		}
		if now.area() != l.area() || len(now) != len(l) || !slices.Equal(now.points(), l.points()) {
			t.Fatalf("P10.2 clear from %v to %v of %v: covers less, or more: %v", a, b, l, now)
		}
		count["tries"]++
		count["crossed"] += crossed
		if crossed >= 12 {
			count["long"]++
		}
	}
	for i := range 80 {
		w, h := 5+d.below(9), 5+d.below(9)
		if i%4 == 0 {
			w, h = far-d.below(2), far-d.below(2)
		}
		ps := d.points(w, h, 10+d.below(30))
		l := d.stirred(t, only(t, ps, nil), nil, 20+d.below(400))
		for range 40 {
			a, b := ps[d.below(len(ps))], ps[d.below(len(ps))]
			if a != b && len(stops(ps, a, b)) == 2 {
				try(l, a, b)
			}
		}
	}
	if count["tries"] < 1500 || count["crossed"] < 6000 || count["long"] < 100 {
		t.Errorf("too few of some: %v", count)
	}
}

// TestTurns is of ways between points that are nearer to it and farther from it by turns,
// so that much of what crosses it can't be flipped at once.
func TestTurns(t *testing.T) {
	for _, n := range []int{2, 3, 5, 9} {
		ps := []api.Point{pt(0, 0), pt(0, 20), pt(0, 10), pt(2*n+2, 0), pt(2*n+2, 20), pt(2*n+2, 10)}
		for x := 1; x <= 2*n+1; x++ {
			up, down := 11+x%2*5, 9-x%3*3
			ps = append(ps, pt(x, up), pt(x, down))
		}
		slices.SortFunc(ps, order)
		d := dice(n)
		for range 6 {
			l := d.stirred(t, only(t, ps, nil), nil, 60*n)
			hold(t, l, nil, pt(0, 10), pt(2*n+2, 10), api.Inner)
			hold(t, l, nil, pt(2*n+2, 10), pt(0, 10), api.Border)
			hold(t, l, nil, pt(0, 0), pt(2*n+2, 10), api.Inner)
			hold(t, l, nil, pt(0, 20), pt(2*n+2, 0), api.Inner)
		}
	}
}

// TestOrder is that in whatever order walls come, and in whichever direction each, it is
// the mesh of all of them.
func TestOrder(t *testing.T) {
	d := dice(101010)
	count := 0
	for range 60 {
		w, h := 2+d.below(8), 2+d.below(8)
		ps := d.points(w, h, d.below(16))
		row := d.fenced(ps, 10)
		want := only(t, ps, row)
		count += len(row)
		for range 4 {
			m, s := made(t, d.stirred(t, only(t, ps, nil), nil, 20)), fixed(t, nil)
			for i, v := range mix(&d, row) {
				a, b := v.A, v.B
				if i%2 == 0 {
					a, b = b, a
				}
				if e := Wall(m, s, a, b, v.Kind); e != api.OK {
					t.Fatalf("P10.2 Wall(%v) of %v beside %v: %d", v, ps, s.All(), e)
				}
				if _, left := m.Left(a, b); !left {
					if _, right := m.Left(b, a); !right {
						t.Fatalf("P10.1 %v is no edge of %v", v, m.Tris())
					}
				}
			}
			if !slices.Equal(m.Tris(), want) || !slices.Equal(s.All(), row) {
				t.Fatalf("P10.2 %v with %v: %v and %v, want %v", ps, row, m.Tris(), s.All(), want)
			}
		}
	}
	if count < 200 {
		t.Errorf("%d walls", count)
	}
}

// TestLate is that it is the same, whether points come ahead of walls or after them, also
// those that walls go over.
func TestLate(t *testing.T) {
	d := dice(11)
	over := 0
	for range 60 {
		w, h := 2+d.below(8), 2+d.below(8)
		ps := d.points(w, h, 12)
		type long struct {
			a, b api.Point
			kind int
		}
		// None crosses another one between two ends, whichever points are there.
		var ways []long
		crossed := func(a, b api.Point) bool {
			return slices.ContainsFunc(ways, func(v long) bool { return apart(a, b, v.a, v.b) && apart(v.a, v.b, a, b) })
		}
		var row []api.Wall
		for range 10 {
			a, b, kind := ps[d.below(len(ps))], ps[d.below(len(ps))], api.Inner+d.below(2)
			if !crossed(a, b) && refusal(ps, row, a, b) == api.OK {
				row = walled(row, stops(ps, a, b), kind)
				ways = append(ways, long{a, b, kind})
			}
		}
		over += len(row) - len(ways)
		// First all ends of walls, then the walls, then the others.
		ends := d.points(w, h, 0)
		for _, v := range ways {
			ends = append(ends, v.a, v.b)
		}
		m, s := made(t, list{tr(0, 0, w, 0, w, h), tr(0, 0, w, h, 0, h)}), fixed(t, nil)
		for _, p := range mix(&d, ends) {
			grow.Point(m, s, p)
		}
		for _, v := range mix(&d, ways) {
			if e := Wall(m, s, v.a, v.b, v.kind); e != api.OK {
				t.Fatalf("P10.2 Wall(%v) of %v beside %v: %d", v, m.Points(), s.All(), e)
			}
		}
		for _, p := range mix(&d, ps) {
			grow.Point(m, s, p)
		}
		if want := only(t, ps, row); !slices.Equal(m.Tris(), want) || !slices.Equal(s.All(), row) {
			t.Fatalf("P10.2 %v with %v: %v and %v, want %v", ps, row, m.Tris(), s.All(), want)
		}
	}
	if over < 40 {
		t.Errorf("%d parts", over)
	}
}

// TestHeaps is that the calls end for meshes of whatever triangles, and walls wherever,
// that they tell the same twice, and that an error changes nothing.
func TestHeaps(t *testing.T) {
	d := dice(1111)
	count := map[api.Errno]int{}
	for range 1500 {
		var l list
		for range 40 {
			u, ok := told(pt(d.below(6), d.below(6)), pt(d.below(6), d.below(6)), pt(d.below(6), d.below(6)))
			if _, e := mesh.New(append(l[:len(l):len(l)], u)); ok && e == api.OK {
				l = append(l, u)
			}
		}
		var row []api.Wall
		for range d.below(4) {
			v, ok := walls.Make(pt(d.below(6), d.below(6)), pt(d.below(6), d.below(6)), api.Inner+d.below(2))
			if _, e := walls.New(append(row[:len(row):len(row)], v)); ok && e == api.OK {
				row = append(row, v)
			}
		}
		a, b := pt(d.below(6), d.below(6)), pt(d.below(6), d.below(6))
		m, s := made(t, l), fixed(t, row)
		tris, all := m.Tris(), s.All()
		parts, f := Parts(m, a, b)
		if a != b && !slices.Equal(parts, stops(l.points(), a, b)) || (f == api.OK) != (len(parts) > 0) {
			t.Fatalf("P10.1 Parts from %v to %v of %v: %v, %d", a, b, l, parts, f)
		}
		e := Wall(m, s, a, b, api.Inner)
		count[e]++
		if e != api.OK && (!slices.Equal(m.Tris(), tris) || !slices.Equal(s.All(), all)) {
			t.Fatalf("P10.1 Wall from %v to %v of %v: %d, and changes it", a, b, l, e)
		}
		slices.Reverse(l)
		n, again := made(t, l), fixed(t, row)
		if f := Wall(n, again, a, b, api.Inner); f != e || !slices.Equal(n.Tris(), m.Tris()) || !slices.Equal(again.All(), s.All()) {
			t.Fatalf("P10.1 Wall from %v to %v of %v: %d, then %d", a, b, l, e, f)
		}
	}
	if count[api.OK] < 500 {
		t.Errorf("heaps: %v", count)
	}
}

// TestMany is of a great mesh, and walls from one end of it to the other.
func TestMany(t *testing.T) {
	const n, step = 100, 1000
	d := dice(111)
	var at [n + 1][n + 1]api.Point
	for x := range n + 1 {
		for y := range n + 1 {
			at[x][y] = pt(x*step, y*step)
			if x > 0 && x < n && y > 0 && y < n {
				at[x][y] = pt(x*step+d.below(400), y*step+d.below(400))
			}
		}
	}
	var l list
	for x := range n {
		for y := range n {
			for _, c := range [][3]api.Point{{at[x][y], at[x+1][y], at[x+1][y+1]}, {at[x][y], at[x+1][y+1], at[x][y+1]}} {
				u, _ := told(c[0], c[1], c[2])
				l = append(l, u)
			}
		}
	}
	m, s := made(t, l), fixed(t, nil)
	want := 0
	for _, v := range []line{
		{at[0][0], at[n][n]}, {at[0][n], at[3][n-3]}, {at[n][0], at[n/2+3][n/2-9]}, {at[0][1], at[n][n-1]}, {at[0][n], at[n][n]},
	} {
		parts, _ := Parts(m, v.a, v.b)
		e := refusal(m.Points(), s.All(), v.a, v.b)
		if got := Wall(m, s, v.a, v.b, api.Border); got != e {
			t.Errorf("P10.1 Wall(%v) of many: %d, want %d", v, got, e)
		}
		if e == api.OK {
			want += len(parts) - 1
		}
	}
	now := list(m.Tris())
	es := now.edges()
	for _, v := range s.All() {
		if es[line{v.A, v.B}] == 0 {
			t.Errorf("P10.1 of many: %v is no edge", v)
		}
	}
	if want < n+2 || s.Len() != want || !flip.Good(m, s) || now.area() != l.area() || len(now) != len(l) || len(es) != len(l.edges()) {
		t.Errorf("P10.2 of many: %d walls, want %d; %d triangles", s.Len(), want, len(now))
	}
}
