package caps

import (
	"math"
	"slices"
	"testing"

	"hectare/api"
	"hectare/plain"
)

// TestIssueRows is of one wish to issue, turned in one thing or two: the first that is wrong counts.
func TestIssueRows(t *testing.T) {
	type wish struct {
		by        int
		parent, c api.Cap
		now       int
	}
	rows := []struct {
		what string
		turn func(w *wish)
		want api.Errno
	}{
		{"as it is", func(w *wish) {}, api.OK},
		{"to oneself", func(w *wish) { w.c.Holder = 1 }, api.OK},
		{"to 0", func(w *wish) { w.c.Holder = 0 }, api.OK},
		{"to 255", func(w *wish) { w.c.Holder = 255 }, api.OK},
		{"all that one has", func(w *wish) { w.c.Label, w.c.Rights, w.c.Until = 0, 15, 100 }, api.OK},
		{"the greatest label", func(w *wish) { w.c.Label = 65535 }, api.OK},
		{"for one tick", func(w *wish) { w.c.Until = 1 }, api.OK},
		{"at the last moment", func(w *wish) { w.now, w.c.Until = 99, 100 }, api.OK},
		{"long ago", func(w *wish) { w.now, w.c.Until = math.MinInt, 0 }, api.OK},
		{"numbers that don't count", func(w *wish) { w.c.Parcel, w.c.Issuer, w.c.N, w.c.FromI, w.c.FromN = 9, -7, 99, -1, 1<<40 }, api.OK},
		{"of a parcel that is not there", func(w *wish) { w.c.Parcel = -1 }, api.OK},
		{"by another one", func(w *wish) { w.by = 2 }, api.Denied},
		{"by its Issuer", func(w *wish) { w.by = 0 }, api.Denied},
		{"by nobody", func(w *wish) { w.by = -1 }, api.Denied},
		{"by one far away", func(w *wish) { w.by = 1 + 1<<32 }, api.Denied},
		{"no parent", func(w *wish) { w.parent = api.Cap{} }, api.Denied},
		{"a parent that was taken back", func(w *wish) { w.parent.N = 1 }, api.Denied},
		{"a parent of another parcel", func(w *wish) { w.parent.Parcel = 9 }, api.Denied},
		{"a parent's other Issuer", func(w *wish) { w.parent.Issuer = 1 }, api.Denied},
		{"a parent's other Holder", func(w *wish) { w.parent.Holder, w.by = 2, 2 }, api.Denied},
		{"a parent's other Label", func(w *wish) { w.parent.Label = 7 }, api.Denied},
		{"a parent's other Rights", func(w *wish) { w.parent.Rights = 11 }, api.Denied},
		{"a parent's other Until", func(w *wish) { w.parent.Until = 101 }, api.Denied},
		{"a parent's other FromI", func(w *wish) { w.parent.FromI = 0 }, api.Denied},
		{"a parent's other FromN", func(w *wish) { w.parent.FromN = 1 }, api.Denied},
		{"a parent whose time is up", func(w *wish) { w.now, w.c.Until = 100, 100 }, api.Denied},
		{"long after", func(w *wish) { w.now = math.MaxInt }, api.Denied},
		{"a parent without Grant", func(w *wish) { w.by, w.parent = 4, family().caps[4] }, api.Denied},
		{"Holder -1", func(w *wish) { w.c.Holder = -1 }, api.Malformed},
		{"Holder 256", func(w *wish) { w.c.Holder = 256 }, api.Malformed},
		{"Label -1", func(w *wish) { w.c.Label = -1 }, api.Malformed},
		{"Label 65536", func(w *wish) { w.c.Label = 65536 }, api.Malformed},
		{"Rights 0", func(w *wish) { w.c.Rights = 0 }, api.Malformed},
		{"Rights 16", func(w *wish) { w.c.Rights = 16 }, api.Malformed},
		{"Rights -1", func(w *wish) { w.c.Rights = -1 }, api.Malformed},
		{"Until -1", func(w *wish) { w.c.Until = -1 }, api.Malformed},
		{"Until MaxTick", func(w *wish) { w.c.Until = api.MaxTick }, api.Malformed},
		{"Until -1, long ago", func(w *wish) { w.c.Until, w.now = -1, -9 }, api.Malformed},
		{"longer than the parent", func(w *wish) { w.c.Until = 101 }, api.Wider},
		{"until the last tick", func(w *wish) { w.c.Until = api.MaxTick - 1 }, api.Wider},
		{"until now", func(w *wish) { w.c.Until, w.now = 50, 50 }, api.Wider},
		{"until a while ago", func(w *wish) { w.c.Until, w.now = 0, 50 }, api.Wider},
		{"another label", func(w *wish) { w.by, w.parent, w.c.Label = 2, family().caps[1], 8 }, api.Wider},
		{"all labels", func(w *wish) { w.by, w.parent, w.c.Label = 2, family().caps[1], 0 }, api.Wider},
		{"another right", func(w *wish) { w.by, w.parent, w.c.Rights = 2, family().caps[1], 4 }, api.Wider},
		{"a right more", func(w *wish) { w.by, w.parent, w.c.Rights = 2, family().caps[1], 15 }, api.Wider},
		{"Denied ahead of Malformed", func(w *wish) { w.by, w.c.Rights = 2, 0 }, api.Denied},
		{"Denied ahead of Wider", func(w *wish) { w.by, w.c.Until = 2, 101 }, api.Denied},
		{"Malformed ahead of Wider", func(w *wish) { w.c.Until, w.c.Label = 101, 65536 }, api.Malformed},
	}
	for _, r := range rows {
		m := family()
		x := made(t, m)
		w := wish{by: 1, parent: m.caps[0], c: api.Cap{Holder: 3, Label: 7, Rights: 3, Until: 60}}
		r.turn(&w)
		m, want, e := m.issue(w.by, w.parent, w.c, w.now)
		if e != r.want {
			t.Errorf("%s: the list says %d", r.what, e)
		}
		got, e := x.Issue(w.by, w.parent, w.c, w.now)
		if e != r.want || got != want {
			t.Errorf("P16.3 %s: %d, %d, not %d, %d", r.what, got, e, want, r.want)
		}
		hold(t, r.what, x, m)
	}
}

// TestIssueFull is of one who issues until there is no more room, and goes on once some are gone.
func TestIssueFull(t *testing.T) {
	for tokens := range 17 {
		m := list{
			[]api.Cap{{Parcel: 4, Issuer: 9, Holder: 1, Rights: 15, Until: 50, FromI: -1}},
			map[[2]int]int{{4, 9}: 1}, map[int]int{4: max(tokens, 1), 5: 16},
		}
		x := made(t, m)
		for i := range max(tokens, 1) {
			c := api.Cap{Holder: i % 3, Rights: 8, Until: 20}
			n, e := x.Issue(1, m.caps[0], c, 3)
			if n != i || e != api.OK {
				t.Fatalf("P16.3 Issue, %d: %d, %d", i, n, e)
			}
			m, _, _ = m.issue(1, m.caps[0], c, 3)
			hold(t, "Issue", x, m)
		}
		full := func(what string, want api.Errno, c api.Cap) {
			t.Helper()
			if n, e := x.Issue(1, m.caps[0], c, 3); n != 0 || e != want {
				t.Fatalf("P16.3 %s: %d, %d", what, n, e)
			}
			hold(t, what, x, m)
		}
		full("one more", api.Full, api.Cap{Rights: 8, Until: 20})
		full("Wider ahead of Full", api.Wider, api.Cap{Rights: 8, Until: 51})
		full("Malformed ahead of Full", api.Malformed, api.Cap{Rights: 8, Until: -1})
		l, e := x.Revoke(1, 4, 1, 0)
		if len(l) != 1 || e != api.OK {
			t.Fatalf("P16.3 Revoke: %v, %d", l, e)
		}
		m, _, _ = m.revoke(1, title{4, 1, 0})
		full("once one is gone", api.Full, api.Cap{Rights: 8, Until: 20})
	}
}

// TestTwiceNever is that who issues after some are gone gives them new numbers.
func TestTwiceNever(t *testing.T) {
	m := list{
		[]api.Cap{root(0, 1, 0, 15, 50)},
		map[[2]int]int{{1, 0}: 1}, map[int]int{1: 9},
	}
	x := made(t, m)
	for i := range 9 {
		if n, e := x.Issue(1, m.caps[0], root(0, i, 1, 9, 40), 0); n != i || e != api.OK {
			t.Fatalf("P16.4 %d: %d, %d", i, n, e)
		}
		if l, e := x.Revoke(i, 1, 1, i); len(l) != 1 || e != api.OK || len(x.All()) != 1 {
			t.Fatalf("P16.4 %d: %v, %d", i, l, e)
		}
		y, e := New(x.All(), x.Issued(), m.parcels())
		if e != api.OK {
			t.Fatalf("P16.4 New of what is left: %d", e)
		}
		x = y
	}
	if n, e := x.Issue(1, m.caps[0], root(0, 1, 1, 9, 40), 0); n != 0 || e != api.Full {
		t.Fatalf("P16.4 the tenth: %d, %d", n, e)
	}
}

func TestRevokeRows(t *testing.T) {
	rows := []struct {
		what string
		by   int
		of   title
		want []title
	}{
		{"by its Holder", 3, title{1, 2, 0}, []title{{1, 2, 0}}},
		{"by its Issuer", 2, title{1, 2, 0}, []title{{1, 2, 0}}},
		{"by its parent's Issuer", 1, title{1, 2, 0}, []title{{1, 2, 0}}},
		{"by the first one's Issuer", 0, title{1, 2, 0}, []title{{1, 2, 0}}},
		{"by the first one's Holder", 1, title{1, 1, 0}, []title{{1, 1, 0}, {1, 2, 0}, {1, 2, 1}}},
		{"with all below", 0, title{1, 0, 0}, []title{{1, 0, 0}, {1, 1, 0}, {1, 2, 0}, {1, 2, 1}}},
		{"by who holds something below", 3, title{1, 1, 0}, nil},
		{"by who holds another child", 3, title{1, 2, 1}, nil},
		{"by who issued something below", 2, title{1, 0, 0}, nil},
		{"by its Holder, of the first one", 1, title{1, 0, 0}, []title{{1, 0, 0}, {1, 1, 0}, {1, 2, 0}, {1, 2, 1}}},
		{"by who holds another line", 4, title{1, 0, 0}, nil},
		{"by a stranger", 9, title{1, 0, 0}, nil},
		{"by nobody", -1, title{1, 0, 0}, nil},
		{"by a tenant of another parcel", 1, title{1, 0, 2}, nil},
		{"the other line", 4, title{1, 0, 2}, []title{{1, 0, 2}, {1, 4, 0}}},
		{"in the other parcel, by its Issuer", 2, title{9, 2, 3}, []title{{9, 2, 3}}},
		{"in the other parcel, by its Holder", 1, title{9, 2, 3}, []title{{9, 2, 3}}},
		{"one that was taken back", 0, title{1, 0, 1}, nil},
		{"one that never was", 0, title{1, 0, 3}, nil},
		{"one of no parcel", 0, title{2, 0, 0}, nil},
		{"one of nobody", -1, title{1, -1, 0}, nil},
	}
	for _, r := range rows {
		m := family()
		x := made(t, m)
		l, e := x.Revoke(r.by, r.of[0], r.of[1], r.of[2])
		want := api.OK
		if r.want == nil {
			want = api.Denied
		}
		if e != want || !slices.Equal(names(l), r.want) {
			t.Errorf("P16.3 Revoke %s: %v, %d", r.what, names(l), e)
		}
		m, gone, _ := m.revoke(r.by, r.of)
		if !slices.Equal(l, gone) {
			t.Errorf("P16.3 Revoke %s: %v, not %v", r.what, l, gone)
		}
		hold(t, r.what, x, m)
		if l, e := x.Revoke(r.by, r.of[0], r.of[1], r.of[2]); l != nil || e != api.Denied {
			t.Errorf("P16.3 Revoke %s, once more: %v, %d", r.what, names(l), e)
		}
		hold(t, r.what+", once more", x, m)
	}
}

// counts is how often what was tried was answered how.
type counts struct {
	issued, revoked map[api.Errno]int
	deep, many      int // that were issued far below, and that went with many others
}

// TestRandom is of Trees that grow and are cut, as their lists are.
func TestRandom(t *testing.T) {
	d := plain.Dice(1617)
	k := counts{issued: map[api.Errno]int{}, revoked: map[api.Errno]int{}}
	for range 150 {
		m := grown(&d, 12)
		x := made(t, m)
		for now := 0; now < 60 && len(m.caps) > 0; now++ {
			if d.Below(4) == 0 {
				m = k.revoke(t, &d, x, m)
			} else {
				m = k.issue(t, &d, x, m, now/2-d.Below(2))
			}
			hold(t, "on the way", x, m)
			if y, e := New(x.All(), x.Issued(), m.parcels()); y == nil || e != api.OK {
				t.Fatalf("P16.4 New refuses what came of it: %v, %v, %d", x.All(), x.Issued(), e)
			}
		}
	}
	for _, e := range []api.Errno{api.OK, api.Denied, api.Malformed, api.Wider, api.Full} {
		if k.issued[e] < 30 {
			t.Errorf("too few of some: %v", k)
		}
	}
	if k.revoked[api.OK] < 100 || k.revoked[api.Denied] < 100 || k.deep < 50 || k.many < 20 {
		t.Errorf("too few of some: %v", k)
	}
}

// any is one of a list, and mostly who holds it.
func (m list) any(d *plain.Dice) (api.Cap, int) {
	c := m.caps[d.Below(len(m.caps))]
	if d.Below(9) < 7 {
		return c, c.Holder
	}
	return c, tenant(d)
}

// issue tries to issue one.
func (k *counts) issue(t *testing.T, d *plain.Dice, x *Tree, m list, now int) list {
	t.Helper()
	parent, by := m.any(d)
	c := some(d)
	if d.Below(3) > 0 {
		c = lesser(d, c, parent)
	}
	if d.Below(8) == 0 {
		*fields(&c)[3+d.Below(4)] = edges()[d.Below(len(edges()))]
	}
	if d.Below(8) == 0 {
		*fields(&parent)[d.Below(9)] += d.Below(3)
	}
	m, want, e := m.issue(by, parent, c, now)
	got, f := x.Issue(by, parent, c, now)
	if e != f || got != want {
		t.Fatalf("P16.3 Issue(%d, %v, %v, %d): %d, %d, not %d, %d", by, parent, c, now, got, f, want, e)
	}
	if k.issued[e]++; e == api.OK && len(m.line(m.caps[len(m.caps)-1])) > 3 {
		k.deep++
	}
	return m
}

// revoke tries to take one back.
func (k *counts) revoke(t *testing.T, d *plain.Dice, x *Tree, m list) list {
	t.Helper()
	c, by := m.any(d)
	n := called(c)
	n[d.Below(3)] += d.Below(8) / 7
	m, want, e := m.revoke(by, n)
	got, f := x.Revoke(by, n[0], n[1], n[2])
	if e != f || !slices.Equal(got, want) {
		t.Fatalf("P16.3 Revoke(%d, %v): %v, %d, not %v, %d", by, n, got, f, want, e)
	}
	if k.revoked[e]++; len(got) > 2 {
		k.many++
	}
	return m
}

// TestNone is of no Tree, and of one of which nothing was made.
func TestNone(t *testing.T) {
	for _, x := range []*Tree{nil, {}} {
		for _, a := range edges() {
			for _, b := range edges() {
				c, ok := x.Get(a, b, a)
				n, e := x.Issue(a, api.Cap{Holder: a, Rights: b, Until: 9}, api.Cap{Rights: a, Until: b}, b)
				l, f := x.Revoke(a, b, a, b)
				if ok || c != (api.Cap{}) || n != 0 || e != api.Denied || l != nil || f != api.Denied {
					t.Fatalf("P16.3 a Tree of none: %v, %v, %d, %d, %v, %d", c, ok, n, e, l, f)
				}
				if len(x.Held(a, b, a)) > 0 || x.Rights(a, b, a, b) != 0 || len(x.Under(a, b, a)) > 0 {
					t.Fatalf("P16.3 a Tree of none tells of some")
				}
			}
		}
		if len(x.All()) > 0 || len(x.Issued()) > 0 {
			t.Errorf("P16.3 a Tree of none: %v, %v", x.All(), x.Issued())
		}
	}
}

// TestOdd is that no number makes it panic.
func TestOdd(t *testing.T) {
	m := family()
	x := made(t, m)
	for _, a := range edges() {
		for _, b := range edges() {
			for _, c := range edges() {
				got, ok := x.Get(a, b, c)
				want, there := m.get(title{a, b, c})
				if got != want || ok != there || !slices.Equal(x.Under(a, b, c), m.under(title{a, b, c})) {
					t.Fatalf("P16.2 Get, Under(%d, %d, %d): %v, %v", a, b, c, got, ok)
				}
				holdTenant(t, "odd", x, m, a, b, c, 5)
				holdTenant(t, "odd", x, m, a, b, 7, c)
				if _, e := x.Revoke(a, b, c, 77); e != api.Denied {
					t.Fatalf("P16.3 Revoke(%d, %d, %d, 77): %d", a, b, c, e)
				}
			}
		}
	}
	hold(t, "odd", x, m)
}

// TestMemory is that what is handed in and what is answered is the caller's alone.
func TestMemory(t *testing.T) {
	m := family()
	l, n, p := append(sorted(m.caps), root(9, 9, 9, 9, 9)), append(m.issued(), api.Issued{Parcel: 77}), append(m.parcels(), api.Parcel{ID: 77})
	x, _ := New(l[:len(l)-1], n[:len(n)-1], p[:len(p)-1])
	c := api.Cap{Holder: 6, Rights: 1, Until: 9}
	x.Issue(1, m.caps[0], c, 0)
	m, _, _ = m.issue(1, m.caps[0], c, 0)
	if c != (api.Cap{Holder: 6, Rights: 1, Until: 9}) || l[len(l)-1] != root(9, 9, 9, 9, 9) || n[len(n)-1].Parcel != 77 || p[len(p)-1].ID != 77 {
		t.Errorf("P16.4 what was handed in is changed: %v, %v, %v", l, n, p)
	}
	wipe(l)
	wipe(n)
	wipe(p)
	hold(t, "once what was handed in is changed", x, m)
	wipe(x.All())
	wipe(x.Issued())
	wipe(x.Held(1, 1, 0))
	wipe(x.Under(1, 0, 0))
	hold(t, "once what was answered is changed", x, m)
	all, held, under := x.All(), x.Held(2, 1, 0), x.Under(1, 0, 0)
	a, h, u := slices.Clone(all), slices.Clone(held), slices.Clone(under)
	gone, _ := x.Revoke(0, 1, 1, 0)
	m, want, _ := m.revoke(0, title{1, 1, 0})
	if !slices.Equal(all, a) || !slices.Equal(held, h) || !slices.Equal(under, u) || !slices.Equal(gone, want) {
		t.Errorf("P16.4 what was answered is changed by what is done: %v, %v, %v, %v", all, held, under, gone)
	}
	wipe(gone)
	hold(t, "once what went is changed", x, m)
	if n, e := x.Issue(1, m.caps[0], c, 0); n != 2 || e != api.OK || !slices.Equal(all, a) {
		t.Errorf("P16.4 what comes then: %d, %d, %v", n, e, all)
	}
}

// wipe changes all of some, and of their spare room.
func wipe[T any](l []T) {
	clear(l[:cap(l)])
}

// TestMade is that Trees that are made of the same lists have nothing in common.
func TestMade(t *testing.T) {
	m := family()
	g := m.lists()
	x, _ := New(g.l, g.n, g.p)
	y, _ := New(g.l, g.n, g.p)
	x.Issue(1, m.caps[0], api.Cap{Holder: 6, Rights: 1, Until: 9}, 0)
	x.Revoke(2, 1, 2, 0)
	hold(t, "the other one", y, m)
}

// longest is as many as may be: a line of 4096 in each of 255 parcels, round and round through all
// tenants.
func longest() given {
	var g given
	for id := 1; id < 256; id++ {
		g.p = append(g.p, api.Parcel{ID: id, Tokens: 16})
		for tenant := range 256 {
			g.n = append(g.n, api.Issued{Parcel: id, Tenant: tenant, N: 16})
			for round := range 16 {
				c := api.Cap{Parcel: id, Issuer: tenant, N: round, Holder: (tenant + 1) % 256, Rights: 15, Until: 99, FromI: tenant - 1, FromN: round}
				switch {
				case tenant == 0 && round == 0:
					c.FromN = 0
				case tenant == 0:
					c.FromI, c.FromN = 255, round-1
				}
				g.l = append(g.l, c)
			}
		}
	}
	return g
}

func TestGreat(t *testing.T) {
	g := longest()
	x, e := New(g.l, g.n, g.p)
	if e != api.OK || len(x.Under(255, 0, 0)) != 4096 || len(x.Under(1, 255, 14)) != 257 || x.Rights(9, 7, 1, 98) != 15 || len(x.Held(9, 7, 98)) != 16 {
		t.Fatalf("P16.1 as many as may be: %d", e)
	}
	if gone, e := x.Revoke(0, 100, 128, 7); len(gone) != 4096-7*256-128 || e != api.OK || len(x.All()) != len(g.l)-len(gone) {
		t.Errorf("P16.3 Revoke of a part of a line: %d, %d", len(gone), e)
	}
	g.l[0].FromI, g.l[0].FromN = 255, 15
	if _, e := New(g.l, g.n, g.p); e != api.Malformed {
		t.Errorf("P16.1 New of a line that is a ring: %d", e)
	}
}
