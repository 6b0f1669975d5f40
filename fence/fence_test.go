package fence

import (
	"slices"
	"testing"

	"hectare/api"
	"hectare/flip"
	"hectare/grow"
	"hectare/plain"
)

// walled is what a wall that may be makes of a row.
func walled(row []api.Wall, parts []api.Point, kind int) []api.Wall {
	row = slices.Clone(row)
	for i := range len(parts) - 1 {
		e := plain.Between(parts[i], parts[i+1])
		row = append(row, api.Wall{A: e.A, B: e.B, Kind: kind})
	}
	slices.SortFunc(row, plain.Rising)
	return row
}

// refusal is what Wall is to tell of two Valid points, corners or not.
func refusal(ps []api.Point, row []api.Wall, a, b api.Point) api.Errno {
	if a == b {
		return api.Malformed
	}
	parts := plain.Stops(ps, a, b)
	if parts == nil {
		return api.None
	}
	for i := range len(parts) - 1 {
		if e := plain.Clash(row, parts[i], parts[i+1]); e != api.OK {
			return e
		}
	}
	return api.OK
}

// hold puts one wall into a mesh, and holds what comes of it against the plain reckoning.
func hold(t *testing.T, l list, row []api.Wall, a, b api.Point, kind int) api.Errno {
	t.Helper()
	m, s, ps := made(t, l), fixed(t, row), l.Points()
	want, tris, all := refusal(ps, row, a, b), list(m.Tris()), s.All()
	if want == api.OK {
		all = walled(row, plain.Stops(ps, a, b), kind)
		tris = only(t, ps, all)
	}
	if e := Wall(m, s, a, b, kind); e != want {
		t.Fatalf("P10.1 Wall(%v, %v, %d) of %v with %v: %d, want %d", a, b, kind, l, row, e, want)
	}
	if !slices.Equal(s.All(), all) {
		t.Fatalf("P10.1 Wall(%v, %v, %d) of %v with %v: walls %v, want %v", a, b, kind, l, row, s.All(), all)
	}
	if !slices.Equal(m.Tris(), tris) {
		t.Fatalf("P10.1 Wall(%v, %v, %d) of %v with %v: %v, want %v", a, b, kind, l, row, m.Tris(), tris)
	}
	return want
}

// fenced is some walls that may be beside each other, between some points.
func fenced(d *plain.Dice, ps []api.Point, tries int) []api.Wall {
	var row []api.Wall
	for range tries {
		a, b := ps[d.Below(len(ps))], ps[d.Below(len(ps))]
		if refusal(ps, row, a, b) == api.OK {
			row = walled(row, plain.Stops(ps, a, b), api.Inner+d.Below(2))
		}
	}
	return row
}

// TestAll is of all ways between the points of small squares, whether these are corners
// or not, with walls and without, in meshes that are cut well or not.
func TestAll(t *testing.T) {
	d := plain.Dice(10)
	count := map[api.Errno]int{}
	for i := range 45 {
		w, h := 1+d.Below(6), 1+d.Below(6)
		ps := d.Points(w, h, d.Below(13))
		row := fenced(&d, ps, i%3*3)
		l := d.Stir(only(t, ps, row), row, i%4*30)
		for x := range (w + 1) * (h + 1) {
			for y := range (w + 1) * (h + 1) {
				a, b := pt(x/(h+1), x%(h+1)), pt(y/(h+1), y%(h+1))
				count[hold(t, l, row, a, b, api.Inner+(x+y)%2)]++
			}
		}
	}
	for _, e := range []api.Errno{api.OK, api.Malformed, api.None, api.Have, api.Cross} {
		if count[e] < 200 {
			t.Errorf("too few of some: %v", count)
		}
	}
}

// TestClear is that just the edges that cross a way are flipped away, however the mesh is
// cut: on the way to it no other one goes.
func TestClear(t *testing.T) {
	d := plain.Dice(1010)
	count := map[string]int{}
	try := func(l list, a, b api.Point) {
		m := made(t, l)
		way{a, b}.clear(m)
		now := list(m.Tris())
		then, e := now.Edges(), plain.Between(a, b)
		crossed := 0
		for f := range l.Edges() {
			if f != e && plain.Meet(e, f) {
				crossed++
			} else if then[f] == 0 {
				t.Fatalf("P10.1 clear from %v to %v of %v: %v went", a, b, l, f)
			}
		}
		if then[e] == 0 {
			t.Fatalf("P10.2 clear from %v to %v of %v: no edge: %v", a, b, l, now)
		}
		if now.Area() != l.Area() || len(now) != len(l) || !slices.Equal(now.Points(), l.Points()) {
			t.Fatalf("P10.2 clear from %v to %v of %v: covers less, or more: %v", a, b, l, now)
		}
		count["tries"]++
		count["crossed"] += crossed
		if crossed >= 12 {
			count["long"]++
		}
	}
	for i := range 80 {
		w, h := 5+d.Below(9), 5+d.Below(9)
		if i%4 == 0 {
			w, h = plain.Far-d.Below(2), plain.Far-d.Below(2)
		}
		ps := d.Points(w, h, 10+d.Below(30))
		l := d.Stir(only(t, ps, nil), nil, 20+d.Below(400))
		for range 40 {
			a, b := ps[d.Below(len(ps))], ps[d.Below(len(ps))]
			if a != b && len(plain.Stops(ps, a, b)) == 2 {
				try(l, a, b)
			}
		}
	}
	if count["tries"] < 1500 || count["crossed"] < 6000 || count["long"] < 100 {
		t.Errorf("too few of some: %v", count)
	}
}

// TestTurns is of ways between points that are nearer to it and farther from it by turns,
// so that much of what crosses it can't be flipped at once.
func TestTurns(t *testing.T) {
	for _, n := range []int{2, 3, 5, 9} {
		ps := []api.Point{pt(0, 0), pt(0, 20), pt(0, 10), pt(2*n+2, 0), pt(2*n+2, 20), pt(2*n+2, 10)}
		for x := 1; x <= 2*n+1; x++ {
			up, down := 11+x%2*5, 9-x%3*3
			ps = append(ps, pt(x, up), pt(x, down))
		}
		slices.SortFunc(ps, plain.Order)
		d := plain.Dice(n)
		for range 6 {
			l := d.Stir(only(t, ps, nil), nil, 60*n)
			hold(t, l, nil, pt(0, 10), pt(2*n+2, 10), api.Inner)
			hold(t, l, nil, pt(2*n+2, 10), pt(0, 10), api.Border)
			hold(t, l, nil, pt(0, 0), pt(2*n+2, 10), api.Inner)
			hold(t, l, nil, pt(0, 20), pt(2*n+2, 0), api.Inner)
		}
	}
}

// TestOrder is that in whatever order walls come, and in whichever direction each, it is
// the mesh of all of them.
func TestOrder(t *testing.T) {
	d := plain.Dice(101010)
	count := 0
	for range 60 {
		w, h := 2+d.Below(8), 2+d.Below(8)
		ps := d.Points(w, h, d.Below(16))
		row := fenced(&d, ps, 10)
		want := only(t, ps, row)
		count += len(row)
		for range 4 {
			m, s := made(t, d.Stir(only(t, ps, nil), nil, 20)), fixed(t, nil)
			for i, v := range plain.Mix(&d, row) {
				a, b := v.A, v.B
				if i%2 == 0 {
					a, b = b, a
				}
				if e := Wall(m, s, a, b, v.Kind); e != api.OK {
					t.Fatalf("P10.2 Wall(%v) of %v beside %v: %d", v, ps, s.All(), e)
				}
				if _, left := m.Left(a, b); !left {
					if _, right := m.Left(b, a); !right {
						t.Fatalf("P10.1 %v is no edge of %v", v, m.Tris())
					}
				}
			}
			if !slices.Equal(m.Tris(), want) || !slices.Equal(s.All(), row) {
				t.Fatalf("P10.2 %v with %v: %v and %v, want %v", ps, row, m.Tris(), s.All(), want)
			}
		}
	}
	if count < 200 {
		t.Errorf("%d walls", count)
	}
}

// TestLate is that it is the same, whether points come ahead of walls or after them, also
// those that walls go over.
func TestLate(t *testing.T) {
	d := plain.Dice(11)
	over := 0
	for range 60 {
		w, h := 2+d.Below(8), 2+d.Below(8)
		ps := d.Points(w, h, 12)
		type long struct {
			a, b api.Point
			kind int
		}
		// None crosses another one between two ends, whichever points are there.
		var ways []long
		crossed := func(a, b api.Point) bool {
			return slices.ContainsFunc(ways, func(v long) bool { return plain.Apart(a, b, v.a, v.b) && plain.Apart(v.a, v.b, a, b) })
		}
		var row []api.Wall
		for range 10 {
			a, b, kind := ps[d.Below(len(ps))], ps[d.Below(len(ps))], api.Inner+d.Below(2)
			if !crossed(a, b) && refusal(ps, row, a, b) == api.OK {
				row = walled(row, plain.Stops(ps, a, b), kind)
				ways = append(ways, long{a, b, kind})
			}
		}
		over += len(row) - len(ways)
		// First all ends of walls, then the walls, then the others.
		ends := d.Points(w, h, 0)
		for _, v := range ways {
			ends = append(ends, v.a, v.b)
		}
		m, s := made(t, list{tr(0, 0, w, 0, w, h), tr(0, 0, w, h, 0, h)}), fixed(t, nil)
		for _, p := range plain.Mix(&d, ends) {
			grow.Point(m, s, p)
		}
		for _, v := range plain.Mix(&d, ways) {
			if e := Wall(m, s, v.a, v.b, v.kind); e != api.OK {
				t.Fatalf("P10.2 Wall(%v) of %v beside %v: %d", v, m.Points(), s.All(), e)
			}
		}
		for _, p := range plain.Mix(&d, ps) {
			grow.Point(m, s, p)
		}
		if want := only(t, ps, row); !slices.Equal(m.Tris(), want) || !slices.Equal(s.All(), row) {
			t.Fatalf("P10.2 %v with %v: %v and %v, want %v", ps, row, m.Tris(), s.All(), want)
		}
	}
	if over < 40 {
		t.Errorf("%d parts", over)
	}
}

// TestHeaps is that the calls end for meshes of whatever triangles, and walls wherever,
// that they tell the same twice, and that an error changes nothing.
func TestHeaps(t *testing.T) {
	d := plain.Dice(1111)
	count := map[api.Errno]int{}
	for range 6000 {
		l := d.Heap(nil, 5, 5, 40)
		row := d.Walls(nil, 5, 5, d.Below(4))
		a, b := d.Point(5, 5), d.Point(5, 5)
		m, s := made(t, l), fixed(t, row)
		tris, all := m.Tris(), s.All()
		parts, f := Parts(m, a, b)
		if a != b && !slices.Equal(parts, plain.Stops(l.Points(), a, b)) || (f == api.OK) != (len(parts) > 0) {
			t.Fatalf("P10.1 Parts from %v to %v of %v: %v, %d", a, b, l, parts, f)
		}
		e := Wall(m, s, a, b, api.Inner)
		count[e]++
		if e != api.OK && (!slices.Equal(m.Tris(), tris) || !slices.Equal(s.All(), all)) {
			t.Fatalf("P10.1 Wall from %v to %v of %v: %d, and changes it", a, b, l, e)
		}
		slices.Reverse(l)
		n, again := made(t, l), fixed(t, row)
		if f := Wall(n, again, a, b, api.Inner); f != e || !slices.Equal(n.Tris(), m.Tris()) || !slices.Equal(again.All(), s.All()) {
			t.Fatalf("P10.1 Wall from %v to %v of %v: %d, then %d", a, b, l, e, f)
		}
	}
	if count[api.OK] < 500 {
		t.Errorf("heaps: %v", count)
	}
}

// TestMany is of a great mesh, and walls from one end of it to the other.
func TestMany(t *testing.T) {
	const n, step = 100, 1000
	d := plain.Dice(111)
	var at [n + 1][n + 1]api.Point
	for x := range n + 1 {
		for y := range n + 1 {
			at[x][y] = pt(x*step, y*step)
			if x > 0 && x < n && y > 0 && y < n {
				at[x][y] = pt(x*step+d.Below(400), y*step+d.Below(400))
			}
		}
	}
	var l list
	for x := range n {
		for y := range n {
			for _, c := range [][3]api.Point{{at[x][y], at[x+1][y], at[x+1][y+1]}, {at[x][y], at[x+1][y+1], at[x][y+1]}} {
				u, _ := plain.Told(c[0], c[1], c[2])
				l = append(l, u)
			}
		}
	}
	m, s := made(t, l), fixed(t, nil)
	want := 0
	for _, v := range [][2]api.Point{
		{at[0][0], at[n][n]}, {at[0][n], at[3][n-3]}, {at[n][0], at[n/2+3][n/2-9]}, {at[0][1], at[n][n-1]}, {at[0][n], at[n][n]},
	} {
		parts, _ := Parts(m, v[0], v[1])
		e := refusal(m.Points(), s.All(), v[0], v[1])
		if got := Wall(m, s, v[0], v[1], api.Border); got != e {
			t.Errorf("P10.1 Wall(%v) of many: %d, want %d", v, got, e)
		}
		if e == api.OK {
			want += len(parts) - 1
		}
	}
	now := list(m.Tris())
	es := now.Edges()
	for _, v := range s.All() {
		if es[plain.Between(v.A, v.B)] == 0 {
			t.Errorf("P10.1 of many: %v is no edge", v)
		}
	}
	if want < n+2 || s.Len() != want || !flip.Good(m, s) || now.Area() != l.Area() || len(now) != len(l) || len(es) != len(l.Edges()) {
		t.Errorf("P10.2 of many: %d walls, want %d; %d triangles", s.Len(), want, len(now))
	}
}
