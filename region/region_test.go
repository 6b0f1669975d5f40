package region

import (
	"slices"
	"testing"

	"hectare/api"
	"hectare/cdt"
	"hectare/plain"
)

// laid is a square with some points and walls, as far as they may be.
func laid(w, h int, ps []api.Point, row []api.Wall) *cdt.CDT {
	c, _ := cdt.New(w, h)
	for _, p := range ps {
		c.AddPoint(p)
	}
	for _, v := range row {
		c.AddPoint(v.A)
		c.AddPoint(v.B)
		c.AddWall(v.A, v.B, v.Kind)
	}
	return c
}

// stir changes a mesh somehow.
func stir(d *plain.Dice, c *cdt.CDT, w, h int) {
	ps, row := c.Mesh().Points(), c.Walls().All()
	p, q := ps[d.Below(len(ps))], ps[d.Below(len(ps))]
	switch d.Below(8) {
	case 0, 1:
		c.AddPoint(d.Point(w, h))
	case 2:
		c.DropPoint(p)
	case 3, 4, 5:
		c.AddWall(p, q, api.Inner)
	case 6:
		c.AddWall(p, q, api.Inner+d.Below(6)/5)
	default:
		v := row[d.Below(len(row))]
		c.DropWall(v.A, v.B)
	}
}

// given is regions of all parts, with whatever labels, rooms and owners.
func given(d *plain.Dice, c *cdt.CDT) list {
	parcels := plain.Mix(d, []int{1, 2, 3, 7, 100, 254, 255})
	var l list
	for i, land := range parts(c, api.Border) {
		labels := plain.Mix(d, []int{1, 2, 3, 4, 5, 6, 7, 8, 99, 256, 1000, 9000, 65534, 65535})
		for _, part := range parts(c, api.Inner) {
			if !slices.Contains(land, part[0]) {
				continue
			}
			n := len(plain.List(part).Points())
			r := api.Region{Parcel: parcels[i%7], Label: labels[len(l)%14], Room: min(64, n+d.Below(5)*d.Below(5)), Owner: d.Below(256), Seed: part[0]}
			l = append(l, held{r, part})
		}
	}
	slices.SortFunc(l, func(h, g held) int { return slices.CompareFunc(corners(h.r.Seed), corners(g.r.Seed), plain.Order) })
	return l
}

// told is the regions of a list.
func (l list) told() []api.Region {
	var rs []api.Region
	for _, h := range l {
		rs = append(rs, h.r)
	}
	return rs
}

// made is the Table of a list, as it must be.
func made(t *testing.T, c *cdt.CDT, l list) *Table {
	t.Helper()
	x, e := New(c, l.told())
	if e != api.OK || x == nil {
		t.Fatalf("P14.1 New of %v: %v, %d", l.told(), x, e)
	}
	hold(t, "New", x, l)
	return x
}

// city is of eight by four, a border across its middle, two inner walls across its left half.
func city() *cdt.CDT {
	return laid(8, 4, []api.Point{pt(2, 2), pt(6, 2)}, []api.Wall{plain.Wl(4, 0, 4, 4, 2), plain.Wl(0, 0, 2, 2, 1), plain.Wl(2, 2, 4, 4, 1)})
}

func TestNewRows(t *testing.T) {
	c := city()
	var l []api.Region
	for i, part := range parts(c, api.Inner) {
		l = append(l, api.Region{Parcel: []int{7, 7, 9}[i], Label: []int{1, 2, 1}[i], Room: 10, Owner: i, Seed: part[0]})
	}
	a, b, f := l[0].Seed, l[1].Seed, l[2].Seed
	one := func(parcel, label, room, owner int, seed api.Tri) []api.Region {
		return []api.Region{{Parcel: parcel, Label: label, Room: room, Owner: owner, Seed: seed}, l[1], l[2]}
	}
	two := func(first, second, third api.Region) []api.Region { return []api.Region{first, second, third} }
	reg := func(parcel, label, room int, seed api.Tri) api.Region {
		return api.Region{Parcel: parcel, Label: label, Room: room, Seed: seed}
	}
	turned := api.Tri{A: a.B, B: a.C, C: a.A}
	second := parts(c, api.Inner)[0][1]
	rows := []struct {
		what string
		l    []api.Region
		want api.Errno
	}{
		{"as it is", l, api.OK},
		{"with other numbers", two(reg(255, 65535, 64, a), reg(255, 65534, 4, b), reg(1, 65535, 5, f)), api.OK},
		{"owner 0", one(7, 1, 10, 0, a), api.OK},
		{"owner 255", one(7, 1, 10, 255, a), api.OK},
		{"owner 256", one(7, 1, 10, 256, a), api.Malformed},
		{"owner -1", one(7, 1, 10, -1, a), api.Malformed},
		{"parcel 0", two(reg(0, 1, 10, a), reg(0, 2, 10, b), l[2]), api.Malformed},
		{"parcel 256", two(reg(256, 1, 10, a), reg(256, 2, 10, b), l[2]), api.Malformed},
		{"parcel -1", two(reg(-1, 1, 10, a), reg(-1, 2, 10, b), l[2]), api.Malformed},
		{"label 0", one(7, 0, 10, 0, a), api.Malformed},
		{"label -1", one(7, -1, 10, 0, a), api.Malformed},
		{"label 65536", one(7, 65536, 10, 0, a), api.Malformed},
		{"room 2", one(7, 1, 2, 0, a), api.Malformed},
		{"room 65", one(7, 1, 65, 0, a), api.Malformed},
		{"room 3", one(7, 1, 3, 0, a), api.Full},
		{"room as many as there are", one(7, 1, 4, 0, a), api.OK},
		{"room 4 of five", two(l[0], l[1], reg(9, 1, 4, f)), api.Full},
		{"the last one's numbers", two(l[0], l[1], reg(9, 1, 65, f)), api.Malformed},
		{"no regions", nil, api.Malformed},
		{"one too few", l[:2], api.Malformed},
		{"without the first one", l[1:], api.Malformed},
		{"one too many", append(slices.Clone(l), l[2]), api.Malformed},
		{"in another order", two(l[1], l[0], l[2]), api.Malformed},
		{"one twice", two(l[0], l[0], l[2]), api.Malformed},
		{"a Seed told in another way", one(7, 1, 10, 0, turned), api.Malformed},
		{"a Seed that is no first one", one(7, 1, 10, 0, second), api.Malformed},
		{"no Seed", one(7, 1, 10, 0, api.Tri{}), api.Malformed},
		{"a name twice", one(7, 2, 10, 0, a), api.Have},
		{"a name twice, in two lands", two(l[0], l[1], reg(7, 1, 10, f)), api.Have},
		{"a name twice, of another's parcel", one(9, 1, 10, 0, a), api.Have},
		{"two parcels in one land", one(5, 1, 10, 0, a), api.Malformed},
		{"one parcel in two lands", two(l[0], l[1], reg(7, 3, 10, f)), api.Malformed},
		{"two parcels in one land, one of them in two", one(9, 2, 10, 0, a), api.Malformed},
		{"odd ahead of a name twice", two(reg(7, 2, 10, a), l[1], reg(9, 1, 65, f)), api.Malformed},
		{"a Seed ahead of a name twice", two(reg(7, 2, 10, a), l[1], reg(9, 1, 10, a)), api.Malformed},
		{"a name twice ahead of lands", two(reg(5, 1, 10, a), l[1], reg(5, 1, 10, f)), api.Have},
		{"a name twice ahead of room", two(reg(7, 2, 3, a), l[1], l[2]), api.Have},
		{"lands ahead of room", two(reg(5, 1, 3, a), l[1], l[2]), api.Malformed},
	}
	for _, r := range rows {
		x, e := New(c, r.l)
		if e != r.want || (x == nil) != (e != api.OK) {
			t.Errorf("P14.1 New, %s: %v, %d, want %d", r.what, x, e, r.want)
		}
		if x != nil && !slices.Equal(x.All(), r.l) {
			t.Errorf("P14.2 All, %s: %v", r.what, x.All())
		}
		if x, e := New(nil, r.l); x != nil || e != api.Malformed {
			t.Errorf("P14.1 New of nil, %s: %v, %d", r.what, x, e)
		}
	}
}

// strip is a row of squares with inner walls between, and a border behind so many; a region
// each, with labels from 1 on.
func strip(n, behind int) (*cdt.CDT, []api.Region) {
	var row []api.Wall
	for i := 1; i < n; i++ {
		kind := api.Inner
		if i == behind {
			kind = api.Border
		}
		row = append(row, plain.Wl(2*i, 0, 2*i, 2, kind))
	}
	c := laid(2*n, 2, nil, row)
	var l []api.Region
	for i, part := range parts(c, api.Inner) {
		r := api.Region{Parcel: 1, Label: i + 1, Room: 4, Seed: part[0]}
		if i >= behind {
			r.Parcel, r.Label = 2, i+1-behind
		}
		l = append(l, r)
	}
	return c, l
}

// TestNewFull is of parcels with as many regions as may be, and more.
func TestNewFull(t *testing.T) {
	for _, r := range []struct {
		n, behind int
		want      api.Errno
	}{{16, 16, api.OK}, {17, 17, api.Full}, {17, 16, api.OK}, {32, 16, api.OK}, {33, 16, api.Full}, {33, 17, api.Full}} {
		c, l := strip(r.n, r.behind)
		x, e := New(c, l)
		if e != r.want || (x == nil) != (e != api.OK) {
			t.Errorf("P14.1 New of %d, %d of one parcel: %d, want %d", r.n, r.behind, e, r.want)
		}
	}
	c, l := strip(17, 17)
	if _, e := New(c, append(slices.Clone(l[:16]), api.Region{Parcel: 1, Label: 1, Room: 4, Seed: l[16].Seed})); e != api.Have {
		t.Errorf("P14.1 New of too many, with a name twice: %d", e)
	}
	if _, e := New(c, append(slices.Clone(l[:16]), api.Region{Parcel: 2, Label: 1, Room: 4, Seed: l[16].Seed})); e != api.Malformed {
		t.Errorf("P14.1 New of two parcels without a border: %d", e)
	}
	l[0].Room = 3
	if _, e := New(c, l); e != api.Full {
		t.Errorf("P14.1 New of too many, with too little room: %d", e)
	}
	c, l = strip(33, 17)
	l[0].Parcel, l[0].Label = 2, 99
	if _, e := New(c, l); e != api.Full {
		t.Errorf("P14.1 New of too many, ahead of what borders say: %d", e)
	}
}

// TestNewRandom is of squares with borders, and parcels as they come.
func TestNewRandom(t *testing.T) {
	d := plain.Dice(14)
	count := map[api.Errno]int{}
	for range 400 {
		w, h := 1+d.Below(6), 1+d.Below(6)
		c := laid(w, h, d.Points(w, h, 8), nil)
		for range 20 {
			ps := c.Mesh().Points()
			c.AddWall(ps[d.Below(len(ps))], ps[d.Below(len(ps))], api.Inner+d.Below(2))
		}
		l := given(&d, c).told()
		lands := parts(c, api.Border)
		if d.Below(3) == 0 {
			l[d.Below(len(l))].Parcel = l[d.Below(len(l))].Parcel
		}
		want := api.OK
		for i, r := range l {
			for _, q := range l[:i] {
				one := slices.ContainsFunc(lands, func(part []api.Tri) bool {
					return slices.Contains(part, r.Seed) && slices.Contains(part, q.Seed)
				})
				if one != (r.Parcel == q.Parcel) {
					want = api.Malformed
				}
			}
		}
		for i, r := range l {
			if slices.ContainsFunc(l[:i], func(q api.Region) bool { return q.Parcel == r.Parcel && q.Label == r.Label }) {
				want = api.Have
			}
		}
		x, e := New(c, l)
		count[e]++
		if e != want || (x == nil) != (e != api.OK) {
			t.Fatalf("P14.1 New of %v with %v: %d, want %d", c.Mesh().Tris(), l, e, want)
		}
	}
	if count[api.OK] < 100 || count[api.Malformed] < 30 {
		t.Errorf("too few of some: %v", count)
	}
}

// TestAsked is of names, triangles and rooms that are not there.
func TestAsked(t *testing.T) {
	c := city()
	d := plain.Dice(141)
	l := given(&d, c)
	x := made(t, c, l)
	for _, name := range [][2]int{{0, 0}, {l[0].r.Parcel, 0}, {0, l[0].r.Label}, {l[0].r.Parcel, l[0].r.Label + 12345}, {-1, -1}, {256, 1}, {l[0].r.Label, l[0].r.Parcel}} {
		if l.find(name[0], name[1]) >= 0 {
			t.Fatalf("%v is there", name)
		}
		r, tris, ok := x.Find(name[0], name[1])
		if ok || r != (api.Region{}) || len(tris) > 0 {
			t.Errorf("P14.2 Find(%v), which is not there: %v, %v, %v", name, r, tris, ok)
		}
		if n := x.Room(name[0], name[1]); n != 0 {
			t.Errorf("P14.2 Room(%v), which is not there: %d", name, n)
		}
	}
	for _, parcel := range []int{0, -1, 256, 11} {
		if got := x.Names(parcel); len(got) > 0 {
			t.Errorf("P14.2 Names(%d): %v", parcel, got)
		}
	}
	u := l[0].r.Seed
	gone(t, "others", x, l, []api.Tri{
		{}, {A: u.B, B: u.C, C: u.A}, {A: u.C, B: u.A, C: u.B}, {A: u.A, B: u.C, C: u.B}, {A: u.A, B: u.B, C: u.B},
		tr(0, 0, 8, 0, 8, 4), tr(-1, -1, 4, 0, 4, 4), tr(0, 0, plain.Far+1, 0, 0, 1),
	})
}

func TestRename(t *testing.T) {
	c := city()
	d := plain.Dice(142)
	l := given(&d, c)
	x := made(t, c, l)
	count := map[api.Errno]int{}
	labels := []int{-1, 0, 1, 2, 3, 65535, 65536, 1 << 40}
	for range 3000 {
		h := l[d.Below(len(l))]
		parcel, label, to := h.r.Parcel, h.r.Label, labels[d.Below(len(labels))]
		if d.Below(4) == 0 {
			label = labels[d.Below(len(labels))]
		}
		if d.Below(8) == 0 {
			parcel = d.Below(4)
		}
		m, want := l.rename(parcel, label, to)
		if e := x.Rename(parcel, label, to); e != want {
			t.Fatalf("P14.3 Rename(%d, %d, %d) of %v: %d, want %d", parcel, label, to, l.told(), e, want)
		}
		count[want]++
		hold(t, "Rename", x, m)
		l = m
	}
	for _, e := range []api.Errno{api.OK, api.None, api.Malformed, api.Have} {
		if count[e] < 50 {
			t.Errorf("too few of some: %v", count)
		}
	}
}

// TestNone is of no Table, and of one that has no regions.
func TestNone(t *testing.T) {
	c := city()
	var no *Table
	empty, e := New(&cdt.CDT{}, nil)
	if empty == nil || e != api.OK {
		t.Fatalf("P14.1 New of no triangles: %v, %d", empty, e)
	}
	if x, e := New(&cdt.CDT{}, []api.Region{{Parcel: 1, Label: 1, Room: 3}}); x != nil || e != api.Malformed {
		t.Errorf("P14.1 New of no triangles, with a region: %v, %d", x, e)
	}
	for what, x := range map[string]*Table{"nil": no, "zero": {}, "none": empty} {
		for _, u := range append(c.Mesh().Tris(), api.Tri{}) {
			if r, ok := x.Of(u); ok || r != (api.Region{}) {
				t.Errorf("P14.2 %s: Of(%v): %v", what, u, r)
			}
		}
		for parcel := range 3 {
			for label := range 3 {
				r, tris, ok := x.Find(parcel, label)
				if ok || r != (api.Region{}) || len(tris) > 0 || x.Room(parcel, label) != 0 || len(x.Names(parcel)) > 0 {
					t.Errorf("P14.2 %s: Find(%d, %d): %v, %v, %v", what, parcel, label, r, tris, ok)
				}
				for _, e := range []api.Errno{x.Rename(parcel, label, 5), x.Rename(parcel, label, 0), x.Divide(c, parcel, label, 5, 0), x.Divide(nil, parcel, label, 0, 0), x.Unite(c, parcel, label, 5), x.Unite(nil, parcel, label, label)} {
					if e != api.None {
						t.Errorf("P14.3 %s: of %d, %d: %d", what, parcel, label, e)
					}
				}
			}
		}
		if e := x.After(c); e != api.Malformed || len(x.All()) > 0 {
			t.Errorf("P14.3 %s: After: %d, %v", what, e, x.All())
		}
		if e := x.After(nil); e != api.Malformed {
			t.Errorf("P14.3 %s: After of nil: %d", what, e)
		}
	}
}

// TestKept is that what is handed in is neither changed nor kept, and that nobody shares what
// is answered.
func TestKept(t *testing.T) {
	c := city()
	d := plain.Dice(143)
	l := given(&d, c)
	rs := append(l.told(), api.Region{Label: 77}, api.Region{Label: 78})
	was, tris, row := slices.Clone(rs), c.Mesh().Tris(), c.Walls().All()
	x, e := New(c, rs[:3])
	if e != api.OK || !slices.Equal(rs, was) {
		t.Fatalf("P14.4 New: %d, and what was handed in is %v", e, rs)
	}
	clear(rs)
	hold(t, "once the list is cleared", x, l)
	for range 2 {
		clear(x.All())
		for _, h := range l {
			_, got, _ := x.Find(h.r.Parcel, h.r.Label)
			clear(got[:cap(got)])
			clear(x.Names(h.r.Parcel))
		}
		hold(t, "once the answers are cleared", x, l)
		if e := x.After(c); e != api.OK {
			t.Errorf("P14.3 After, and nothing changed: %d", e)
		}
	}
	x.Rename(l[0].r.Parcel, l[0].r.Label, 444)
	x.Divide(c, l[0].r.Parcel, 444, 445, 0)
	x.Unite(c, l[0].r.Parcel, 444, l[1].r.Label)
	if !slices.Equal(rs, make([]api.Region, 5)) || !slices.Equal(c.Mesh().Tris(), tris) || !slices.Equal(c.Walls().All(), row) {
		t.Errorf("P14.4 what was handed in is changed: %v, %v, %v", rs, c.Mesh().Tris(), c.Walls().All())
	}
	// What the mesh becomes is nothing to a Table that is not told of it.
	l[0].r.Label = 444
	b := c.Copy()
	for range 60 {
		stir(&d, c, 8, 4)
	}
	hold(t, "once the mesh is changed", x, l)
	gone(t, "once the mesh is changed", x, l, c.Mesh().Tris())
	if e := x.After(b); e != api.OK {
		t.Errorf("P14.3 After of what was ahead: %d", e)
	}
	hold(t, "after what was ahead", x, l)
}
