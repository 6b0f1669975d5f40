package region

import (
	"math"
	"slices"
	"testing"
	"time"

	"hectare/api"
	"hectare/cdt"
	"hectare/plain"
)

// What may be done with a Table when its mesh was changed.
const (
	after = iota
	divide
	unite
)

// counts is how often what was done was answered how.
type counts map[[2]int]int

// enough holds that there are so many of each.
func (n counts) enough(t *testing.T, least int) {
	t.Helper()
	for op, es := range [][]api.Errno{
		{api.OK, api.Malformed},
		{api.OK, api.Malformed, api.None, api.Have},
		{api.OK, api.Malformed, api.None, api.Full},
	} {
		for _, e := range es {
			if n[[2]int{op, int(e)}] < least {
				t.Errorf("too few of some: %v", n)
			}
		}
	}
}

// try does one thing with a Table and a list, and holds the one against the other.
func try(t *testing.T, d *plain.Dice, x *Table, l list, c *cdt.CDT, n counts) (list, api.Errno) {
	t.Helper()
	h := l[d.Below(len(l))].r
	label, other, to, owner := h.Label, l[d.Below(len(l))].r.Label, d.Below(5), d.Below(256)
	switch d.Below(20) {
	case 0:
		label, other = d.Below(4), d.Below(4)
	case 1:
		to = 65534 + d.Below(3)
	}
	op := d.Below(3)
	if more := len(parts(c, api.Inner)) - len(l); d.Below(5) > 0 && -2 < more && more < 2 {
		op = []int{unite, after, divide}[more+1]
	}
	was, row := c.Mesh().Tris(), c.Walls().All()
	var m list
	var got, want api.Errno
	switch op {
	case after:
		m, want = l.after(c)
		got = x.After(c)
	case divide:
		m, want = l.divide(c, h.Parcel, label, to, owner)
		got = x.Divide(c, h.Parcel, label, to, owner)
	case unite:
		m, want = l.unite(c, h.Parcel, label, other)
		got = x.Unite(c, h.Parcel, label, other)
	}
	if got != want {
		t.Fatalf("P14.3 %d of %v (%d.%d, %d, %d), changed to %v with %v: %d, want %d", op, l, h.Parcel, label, other, to, was, row, got, want)
	}
	n[[2]int{op, int(got)}]++
	hold(t, "once it was changed", x, m)
	gone(t, "once it was changed", x, m, was)
	for _, h := range l {
		gone(t, "once it was changed", x, m, h.l)
	}
	if !slices.Equal(c.Mesh().Tris(), was) || !slices.Equal(c.Walls().All(), row) {
		t.Fatalf("P14.4 %d changes the mesh: %v, %v, was %v, %v", op, c.Mesh().Tris(), c.Walls().All(), was, row)
	}
	return m, got
}

// TestRandom is of squares whose points and walls come and go, one by one and many at once.
func TestRandom(t *testing.T) {
	d := plain.Dice(1414)
	n := counts{}
	for range 60 {
		w, h := 1+d.Below(7), 1+d.Below(7)
		c := laid(w, h, d.Points(w, h, 4), d.Walls(nil, w, h, 6))
		l := given(&d, c)
		x := made(t, c, l)
		good := c.Copy()
		for range 60 {
			for range 1 + d.Below(3)*d.Below(3) {
				stir(&d, c, w, h)
			}
			e := api.Malformed
			for i := 0; i < 4 && e != api.OK; i++ {
				l, e = try(t, &d, x, l, c, n)
			}
			if e == api.OK {
				good = c.Copy()
			} else if d.Below(4) == 0 {
				c = good.Copy()
			}
		}
	}
	n.enough(t, 20)
}

// TestOthers is of squares that were never changed one to the other: of the same size, or of
// others.
func TestOthers(t *testing.T) {
	d := plain.Dice(14141)
	n := counts{}
	for range 1500 {
		w, h := 1+d.Below(4), 1+d.Below(4)
		row := d.Walls(nil, w, h, 4)
		c := laid(w, h, d.Points(w, h, 3), row)
		v, g := max(1, w+d.Below(3)-1), max(1, h+d.Below(3)-1)
		o := laid(v, g, d.Points(v, g, 3), append(row, d.Walls(nil, v, g, 2)...))
		l := given(&d, c)
		try(t, &d, made(t, c, l), l, o, n)
	}
	if n[[2]int{after, 0}] < 200 || n[[2]int{after, 2}] < 200 || n[[2]int{divide, 0}] < 50 {
		t.Errorf("too few of some: %v", n)
	}
}

// within is the walls of a square that is a part of a greater one, as far as these are from point
// to point there.
func within(row []api.Wall, w, h int) []api.Wall {
	var l []api.Wall
	for _, v := range row {
		var ps []api.Point
		for x := range w + 1 {
			for y := range h + 1 {
				if p := pt(x, y); p == v.A || p == v.B || plain.Within(p, v.A, v.B) {
					ps = append(ps, p)
				}
			}
		}
		if n := len(ps); n > 1 {
			l = append(l, api.Wall{A: ps[0], B: ps[n-1], Kind: v.Kind})
		}
	}
	return l
}

// TestGreater is of squares, and greater ones with walls that go on there.
func TestGreater(t *testing.T) {
	d := plain.Dice(141414)
	n := counts{}
	greater := map[int]int{}
	for range 3000 {
		w, h := 1+d.Below(5), 1+d.Below(5)
		v, g := w+d.Below(4), h+d.Below(4)
		row := d.Walls(nil, v, g, 5)
		// Ways across all of it, so that it is in parts.
		for range 1 + d.Below(2) {
			a, b := pt(0, d.Below(g+1)), pt(v, d.Below(g+1))
			if d.Below(2) == 0 {
				a, b = pt(d.Below(v+1), 0), pt(d.Below(v+1), g)
			}
			row = append([]api.Wall{{A: a, B: b, Kind: api.Inner}}, row...)
		}
		c := laid(w, h, nil, within(row, w, h))
		o := laid(v, g, nil, row)
		l := given(&d, c)
		k := len(l)
		m, e := try(t, &d, made(t, c, l), l, o, n)
		if e == api.OK && (v > w || g > h) {
			greater[min(k, len(m), 3)]++
		}
	}
	if greater[1] < 50 || greater[2] < 50 || greater[3] < 10 {
		t.Errorf("too few greater ones: %v, %v", greater, n)
	}
}

// TestFar is of a square as great as the grid, cut by ways that are nearly one.
func TestFar(t *testing.T) {
	const far = plain.Far
	d := plain.Dice(15)
	ps := []api.Point{pt(0, 1), pt(far, far-1), pt(1, 0), pt(far-1, far), pt(far/2, far/2), pt(far/2+1, far/2), pt(0, far-1), pt(far-1, 0)}
	n := counts{}
	for range 40 {
		c := laid(far, far, plain.Mix(&d, ps)[:d.Below(6)], nil)
		l := given(&d, c)
		x := made(t, c, l)
		for range 20 {
			all, row := append(c.Mesh().Points(), ps...), c.Walls().All()
			a, b := all[d.Below(len(all))], all[d.Below(len(all))]
			switch d.Below(4) {
			case 0:
				v := row[d.Below(len(row))]
				c.DropWall(v.A, v.B)
			case 1:
				c.AddPoint(a)
			case 2:
				c.DropPoint(a)
			default:
				c.AddWall(a, b, api.Inner)
			}
			l, _ = try(t, &d, x, l, c, n)
		}
	}
	if n[[2]int{after, 0}] < 100 || n[[2]int{divide, 0}] < 10 || n[[2]int{unite, 0}] < 5 {
		t.Errorf("too few of some: %v", n)
	}
}

// TestAfterRows is of two by three with a wall from (0,1) to (2,1): one region below it, one above.
func TestAfterRows(t *testing.T) {
	across := plain.Wl(0, 1, 2, 1, 1)
	rows := []struct {
		what string
		c    *cdt.CDT
		want api.Errno
	}{
		{"the same", laid(2, 3, nil, []api.Wall{across}), api.OK},
		{"with points", laid(2, 3, []api.Point{pt(1, 1), pt(0, 2), pt(1, 2)}, []api.Wall{across}), api.OK},
		{"with a wall that ends within", laid(2, 3, []api.Point{pt(1, 1), pt(1, 2)}, []api.Wall{across, plain.Wl(1, 1, 1, 2, 1)}), api.OK},
		{"a border now", laid(2, 3, nil, []api.Wall{plain.Wl(0, 1, 2, 1, 2)}), api.OK},
		{"no wall", laid(2, 3, nil, nil), api.Malformed},
		{"a wall elsewhere", laid(2, 3, nil, []api.Wall{plain.Wl(0, 2, 2, 2, 1)}), api.Malformed},
		{"a wall nearly there", laid(2, 3, nil, []api.Wall{plain.Wl(0, 1, 2, 2, 1)}), api.Malformed},
		{"half of it", laid(2, 3, []api.Point{pt(1, 1)}, []api.Wall{plain.Wl(0, 1, 1, 1, 1)}), api.Malformed},
		{"round a point", laid(2, 3, nil, []api.Wall{plain.Wl(0, 1, 1, 2, 1), plain.Wl(1, 2, 2, 1, 1)}), api.Malformed},
		{"two walls", laid(2, 3, nil, []api.Wall{across, plain.Wl(0, 2, 2, 2, 1)}), api.Malformed},
		{"lower", laid(2, 2, nil, []api.Wall{across}), api.Malformed},
		{"narrower", laid(1, 3, nil, []api.Wall{plain.Wl(0, 1, 1, 1, 1)}), api.Malformed},
		{"lower, and wider", laid(3, 2, nil, []api.Wall{plain.Wl(0, 1, 3, 1, 1)}), api.Malformed},
		{"higher", laid(2, 4, nil, []api.Wall{across}), api.OK},
		{"wider", laid(3, 3, nil, []api.Wall{plain.Wl(0, 1, 3, 1, 1)}), api.OK},
		{"wider, and a wall round its end", laid(3, 3, nil, []api.Wall{across, plain.Wl(2, 1, 2, 3, 1)}), api.OK},
		{"wider, and it is not long enough", laid(3, 3, nil, []api.Wall{across}), api.Malformed},
		{"wider, and what is new is a part", laid(3, 3, nil, []api.Wall{across, plain.Wl(2, 0, 2, 3, 1)}), api.Malformed},
		{"wider, and what is new is the second part", laid(3, 3, nil, []api.Wall{plain.Wl(2, 0, 2, 3, 1)}), api.Malformed},
		{"wider, and it bends", laid(3, 3, nil, []api.Wall{across, plain.Wl(2, 1, 3, 2, 1)}), api.OK},
		{"wider, and it bends too early", laid(4, 3, nil, []api.Wall{plain.Wl(0, 1, 1, 1, 1), plain.Wl(1, 1, 4, 2, 1)}), api.Malformed},
		{"none", nil, api.Malformed},
		{"nothing", &cdt.CDT{}, api.Malformed},
	}
	for _, r := range rows {
		c := laid(2, 3, nil, []api.Wall{across})
		var l list
		for i, part := range parts(c, api.Inner) {
			l = append(l, held{api.Region{Parcel: 4, Label: i + 1, Room: 9, Owner: 3, Seed: part[0]}, part})
		}
		x := made(t, c, l)
		if e := x.After(r.c); e != r.want {
			t.Errorf("P14.3 After, %s: %d, want %d", r.what, e, r.want)
		}
		if r.want != api.OK {
			hold(t, r.what, x, l)
			continue
		}
		m, e := l.after(r.c)
		if e != api.OK {
			t.Errorf("P14.3 %s: %d", r.what, e)
		}
		hold(t, r.what, x, m)
		b, _, _ := x.Find(4, 1)
		a, _, _ := x.Find(4, 2)
		if b.Seed.A != pt(0, 0) || a.Seed.A != pt(0, 1) {
			t.Errorf("P14.3 %s: %v is below, and %v above", r.what, b, a)
		}
	}
}

// TestDivideRows is of two by three, and one region.
func TestDivideRows(t *testing.T) {
	across, high := plain.Wl(0, 1, 2, 1, 1), plain.Wl(0, 2, 2, 2, 1)
	rows := []struct {
		what string
		c    *cdt.CDT
		want api.Errno
	}{
		{"a wall across", laid(2, 3, nil, []api.Wall{across}), api.OK},
		{"a border across", laid(2, 3, nil, []api.Wall{plain.Wl(0, 1, 2, 1, 2)}), api.OK},
		{"a wall round a corner", laid(2, 3, nil, []api.Wall{plain.Wl(0, 1, 1, 1, 1), plain.Wl(1, 0, 1, 1, 1)}), api.OK},
		{"walls around the middle", laid(2, 3, nil, []api.Wall{plain.Wl(0, 1, 1, 2, 1), plain.Wl(1, 2, 2, 1, 1), plain.Wl(0, 1, 2, 1, 1)}), api.Malformed},
		{"no wall", laid(2, 3, nil, nil), api.Malformed},
		{"half a wall", laid(2, 3, nil, []api.Wall{plain.Wl(0, 1, 1, 1, 1)}), api.Malformed},
		{"two walls", laid(2, 3, nil, []api.Wall{across, high}), api.Malformed},
		{"lower", laid(2, 2, nil, []api.Wall{across}), api.Malformed},
		{"narrower", laid(1, 3, nil, []api.Wall{across}), api.Malformed},
		{"higher", laid(2, 4, nil, []api.Wall{across}), api.OK},
		{"higher, and what is new is a part", laid(2, 4, nil, []api.Wall{plain.Wl(0, 3, 2, 3, 1)}), api.Malformed},
		{"higher, and all but what is new is two parts", laid(2, 4, nil, []api.Wall{across, plain.Wl(0, 3, 2, 3, 1)}), api.Malformed},
		{"greater, and what is new is a part beyond the corner", laid(3, 4, nil, []api.Wall{plain.Wl(2, 3, 2, 4, 1), plain.Wl(2, 3, 3, 3, 1)}), api.Malformed},
		{"none", nil, api.Malformed},
		{"nothing", &cdt.CDT{}, api.Malformed},
	}
	for _, r := range rows {
		c := laid(2, 3, nil, nil)
		l := list{{api.Region{Parcel: 4, Label: 1, Room: 9, Owner: 3, Seed: c.Mesh().Tris()[0]}, c.Mesh().Tris()}}
		x := made(t, c, l)
		if e := x.Divide(r.c, 4, 1, 2, 5); e != r.want {
			t.Errorf("P14.3 Divide, %s: %d, want %d", r.what, e, r.want)
		}
		if r.want != api.OK {
			hold(t, r.what, x, l)
			continue
		}
		l = nil
		for i, part := range parts(r.c, api.Inner) {
			l = append(l, held{api.Region{Parcel: 4, Label: 1 + i, Room: 9, Owner: 3 + 2*i, Seed: part[0]}, part})
		}
		hold(t, r.what, x, l)
	}
}

// TestDivideMany is that a parcel comes to have as many regions as it may, whatever others have.
func TestDivideMany(t *testing.T) {
	c, l := strip(31, 15)
	x, e := New(c, l)
	c.AddPoint(pt(1, 0))
	c.AddPoint(pt(1, 2))
	c.AddWall(pt(1, 0), pt(1, 2), api.Inner)
	if f := x.Divide(c, 1, 1, 99, 255); e != api.OK || f != api.OK {
		t.Errorf("P14.3 Divide of fifteen: %d, %d", e, f)
	}
	c.AddPoint(pt(3, 0))
	c.AddPoint(pt(3, 2))
	c.AddWall(pt(3, 0), pt(3, 2), api.Inner)
	if e := x.Divide(c, 1, 2, 100, 0); e != api.Full || len(x.Names(1)) != 16 || x.Names(1)[15] != 99 {
		t.Errorf("P14.3 Divide of sixteen: %d, %v", e, x.Names(1))
	}
}

// TestOrder is which error of several is told.
func TestOrder(t *testing.T) {
	c, l := strip(17, 16)
	x, e := New(c, l)
	if e != api.OK {
		t.Fatalf("P14.1 New: %d", e)
	}
	all := x.All()
	for _, r := range []struct {
		what      string
		got, want api.Errno
	}{
		{"Rename of none to none", x.Rename(1, 17, 0), api.None},
		{"Rename to itself", x.Rename(1, 16, 16), api.Have},
		{"Divide of none, to one that is there", x.Divide(nil, 1, 17, 1, 0), api.None},
		{"Divide of another parcel's", x.Divide(nil, 2, 2, 5, 0), api.None},
		{"Divide to itself", x.Divide(nil, 1, 1, 1, 0), api.Have},
		{"Divide to one that is there", x.Divide(nil, 1, 1, 2, 0), api.Have},
		{"Divide to no label", x.Divide(nil, 1, 1, 0, 0), api.Malformed},
		{"Divide to a label below 0", x.Divide(nil, 1, 1, math.MinInt, 0), api.Malformed},
		{"Divide to a label that is too great", x.Divide(nil, 1, 1, 65536, 0), api.Malformed},
		{"Divide of too many", x.Divide(nil, 1, 1, 17, 0), api.Full},
		{"Divide of too many, to the greatest", x.Divide(c, 1, 1, 65535, 0), api.Full},
		{"Divide of another parcel's, with none", x.Divide(nil, 2, 1, 2, 0), api.Malformed},
		{"Divide, and nothing changed", x.Divide(c, 2, 1, 65535, 0), api.Malformed},
		{"Unite of none", x.Unite(nil, 1, 17, 1), api.None},
		{"Unite with none", x.Unite(nil, 1, 1, 17), api.None},
		{"Unite with itself", x.Unite(nil, 1, 1, 1), api.None},
		{"Unite with another parcel's", x.Unite(nil, 2, 1, 2), api.None},
		{"Unite with no mesh", x.Unite(nil, 1, 1, 2), api.Malformed},
		{"Unite, and nothing changed", x.Unite(c, 1, 1, 2), api.Malformed},
	} {
		if r.got != r.want {
			t.Errorf("P14.3 %s: %d, want %d", r.what, r.got, r.want)
		}
	}
	if !slices.Equal(x.All(), all) {
		t.Errorf("P14.3 what was refused changes something: %v", x.All())
	}
}

// TestUniteRoom is of two regions that share an edge: with just enough room for both, and
// with too little.
func TestUniteRoom(t *testing.T) {
	for _, r := range []struct {
		room, other int
		want        api.Errno
	}{{6, 4, api.OK}, {5, 4, api.Full}, {5, 64, api.Full}, {4, 64, api.Full}, {64, 4, api.OK}} {
		c, l := strip(2, 2)
		l[0].Room, l[1].Room = r.other, r.room
		l[0].Owner, l[1].Owner = 8, 9
		x, e := New(c, l)
		if e != api.OK {
			t.Fatalf("P14.1 New: %d", e)
		}
		// With points at its ends it has six corners, without it has four.
		d := c.Copy()
		d.DropWall(pt(2, 0), pt(2, 2))
		if e := x.Unite(d, 1, 2, 1); e != r.want {
			t.Errorf("P14.3 Unite of six corners, with room for %d: %d, want %d", r.room, e, r.want)
		}
		if r.want == api.OK {
			l = []api.Region{{Parcel: 1, Label: 2, Room: r.room, Owner: 9, Seed: d.Mesh().Tris()[0]}}
			if n := x.Room(1, 2); n != r.room-6 {
				t.Errorf("P14.2 Room of both: %d", n)
			}
		}
		if !slices.Equal(x.All(), l) {
			t.Errorf("P14.3 Unite, with room for %d: %v, want %v", r.room, x.All(), l)
		}
	}
}

// TestLess is that a region may come to have more corners than its Room: so it is told.
func TestLess(t *testing.T) {
	c, l := strip(2, 2)
	x, e := New(c, l)
	for i, p := range []api.Point{pt(0, 1), pt(1, 1), pt(1, 0), pt(1, 2)} {
		if e != api.OK || x.Room(1, 1) != -i || x.Room(1, 2) != 0 {
			t.Errorf("P14.2 Room with %d points: %d, %d, %d", i, e, x.Room(1, 1), x.Room(1, 2))
		}
		c.AddPoint(p)
		if x.Room(1, 1) != -i {
			t.Errorf("P14.2 Room hangs on the mesh: %d, with %d points", x.Room(1, 1), i)
		}
		e = x.After(c)
	}
	if !slices.Equal(x.Names(1), []int{1, 2}) || x.All()[0].Room != 4 || x.Room(1, 1) != -4 {
		t.Errorf("P14.2 with four points: %v, %d", x.All(), x.Room(1, 1))
	}
}

// TestMany is of as many points as a map may have, and of many that change at once.
func TestMany(t *testing.T) {
	const n = 140
	var row []api.Wall
	for i := 1; i < 16; i++ {
		row = append(row, plain.Wl(i*n/16*2, 0, i*n/16*2, 2*n, 1))
	}
	c := laid(2*n, 2*n, nil, row)
	var l []api.Region
	for i, part := range parts(c, api.Inner) {
		l = append(l, api.Region{Parcel: 1, Label: i + 1, Room: 64, Seed: part[0]})
	}
	x, e := New(c, l)
	if e != api.OK {
		t.Fatalf("P14.1 New: %d", e)
	}
	grid := func(shift int) *cdt.CDT {
		var ps []api.Point
		for i := range n {
			for j := range n {
				ps = append(ps, pt(2*i+shift, 2*j+shift))
			}
		}
		ps = slices.DeleteFunc(ps, func(p api.Point) bool { return p == pt(0, 0) })
		g, e := cdt.Build(2*n, 2*n, ps, nil)
		if e != api.OK {
			t.Fatalf("Build: %d", e)
		}
		for _, v := range row {
			g.AddPoint(v.A)
			g.AddPoint(v.B)
			g.AddWall(v.A, v.B, v.Kind)
		}
		return g
	}
	one, two := grid(0), grid(1)
	begin := time.Now()
	for _, g := range []*cdt.CDT{one, two, one, c, two} {
		if e := x.After(g); e != api.OK {
			t.Fatalf("P14.3 After of %d triangles: %d", g.Mesh().Len(), e)
		}
		count := 0
		for _, r := range x.All() {
			_, tris, _ := x.Find(r.Parcel, r.Label)
			count += len(tris)
		}
		if count != g.Mesh().Len() || len(x.All()) != 16 {
			t.Errorf("P14.2 %d of %d triangles are of a region", count, g.Mesh().Len())
		}
	}
	if took := time.Since(begin); took > 20*time.Second {
		t.Errorf("five changes of all took %v", took)
	}
}
