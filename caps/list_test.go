package caps

import (
	"maps"
	"math"
	"slices"
	"testing"

	"hectare/api"
	"hectare/plain"
)

// list is capabilities in whatever order, and what goes with them, to be held against a
// Tree: everything is told of it anew, by going through all of it.
type list struct {
	caps   []api.Cap
	given  map[[2]int]int // by parcel and tenant
	tokens map[int]int    // by parcel
}

// title is a name.
type title [3]int

func called(c api.Cap) title { return title{c.Parcel, c.Issuer, c.N} }

// names is all names of some.
func names(l []api.Cap) []title {
	var out []title
	for _, c := range l {
		out = append(out, called(c))
	}
	return out
}

// sorted is some in order.
func sorted(l []api.Cap) []api.Cap {
	l = slices.Clone(l)
	slices.SortFunc(l, func(a, b api.Cap) int {
		v, w := called(a), called(b)
		return slices.Compare(v[:], w[:])
	})
	return l
}

// copied is another one.
func (m list) copied() list {
	return list{slices.Clone(m.caps), maps.Clone(m.given), maps.Clone(m.tokens)}
}

// issued is the counts, in order.
func (m list) issued() []api.Issued {
	var l []api.Issued
	for k, n := range m.given {
		if n > 0 {
			l = append(l, api.Issued{Parcel: k[0], Tenant: k[1], N: n})
		}
	}
	slices.SortFunc(l, func(a, b api.Issued) int { return slices.Compare([]int{a.Parcel, a.Tenant}, []int{b.Parcel, b.Tenant}) })
	return l
}

// parcels is them, in order.
func (m list) parcels() []api.Parcel {
	var l []api.Parcel
	for _, id := range slices.Sorted(maps.Keys(m.tokens)) {
		l = append(l, api.Parcel{ID: id, Tokens: m.tokens[id]})
	}
	return l
}

// get is the one of a name; false, if there is none.
func (m list) get(n title) (api.Cap, bool) {
	i := slices.IndexFunc(m.caps, func(c api.Cap) bool { return called(c) == n })
	if i < 0 {
		return api.Cap{}, false
	}
	return m.caps[i], true
}

// line is one, its parent, that one's parent, and so on. Of some that are below themselves
// it goes on and on: it ends when it is longer than all of them.
func (m list) line(c api.Cap) []api.Cap {
	l := []api.Cap{c}
	for c.FromI >= 0 && len(l) <= len(m.caps) {
		parent, ok := m.get(title{c.Parcel, c.FromI, c.FromN})
		if !ok {
			break
		}
		l, c = append(l, parent), parent
	}
	return l
}

// under is one, and all below, in order.
func (m list) under(n title) []api.Cap {
	var l []api.Cap
	for _, c := range m.caps {
		if slices.Contains(names(m.line(c)), n) {
			l = append(l, c)
		}
	}
	return sorted(l)
}

// held is what a tenant holds, in order.
func (m list) held(tenant, parcel, now int) []api.Cap {
	l := slices.DeleteFunc(sorted(m.caps), func(c api.Cap) bool {
		return c.Holder != tenant || c.Parcel != parcel || c.Until <= now
	})
	return l
}

// rights is the bits of what a tenant holds.
func (m list) rights(tenant, parcel, label, now int) int {
	var has [4]int
	for _, c := range m.held(tenant, parcel, now) {
		for i := range has {
			if c.Label == label || c.Label == 0 {
				has[i] = max(has[i], bit(c.Rights, i))
			}
		}
	}
	return has[0] + 2*has[1] + 4*has[2] + 8*has[3]
}

func bit(n, i int) int { return n >> i % 2 }

// bits tells whether some rights may be.
func bits(r int) bool { return 1 <= r && r <= 15 }

// fair tells whether the plain numbers of what is given may be.
func fair(c api.Cap) bool {
	return 0 <= c.Holder && c.Holder < 256 && 0 <= c.Label && c.Label < 1<<16 && bits(c.Rights) && 0 <= c.Until && c.Until < 1<<32
}

// wider tells whether a child gives what its parent has not.
func wider(c, p api.Cap) bool {
	for i := range 4 {
		if bit(c.Rights, i) > bit(p.Rights, i) {
			return true
		}
	}
	return c.Until > p.Until || p.Label != 0 && c.Label != p.Label
}

// issue is what comes of that.
func (m list) issue(by int, parent, c api.Cap, now int) (list, int, api.Errno) {
	p, ok := m.get(called(parent))
	if !ok || p != parent || p.Holder != by || p.Until <= now || bit(p.Rights, 3) == 0 {
		return m, 0, api.Denied
	}
	if !fair(c) {
		return m, 0, api.Malformed
	}
	if wider(c, p) || c.Until <= now {
		return m, 0, api.Wider
	}
	n := m.given[[2]int{p.Parcel, by}]
	if n >= m.tokens[p.Parcel] {
		return m, 0, api.Full
	}
	m = m.copied()
	m.given[[2]int{p.Parcel, by}]++
	m.caps = append(m.caps, api.Cap{Parcel: p.Parcel, Issuer: by, N: n, Holder: c.Holder, Label: c.Label, Rights: c.Rights, Until: c.Until, FromI: p.Issuer, FromN: p.N})
	return m, n, api.OK
}

// revoke is what comes of that, and what goes.
func (m list) revoke(by int, n title) (list, []api.Cap, api.Errno) {
	c, ok := m.get(n)
	if !ok || !slices.ContainsFunc(m.line(c), func(c api.Cap) bool { return c.Holder == by || c.Issuer == by }) {
		return m, nil, api.Denied
	}
	gone := m.under(n)
	m = m.copied()
	m.caps = slices.DeleteFunc(m.caps, func(c api.Cap) bool { return slices.Contains(gone, c) })
	return m, gone, api.OK
}

// takes tells whether New must take what it is given.
func takes(g given) bool {
	m := list{g.l, map[[2]int]int{}, map[int]int{}}
	for _, v := range g.p {
		if v.ID < 1 || v.ID > 255 || v.Tokens < 0 || v.Tokens > 16 {
			return false
		}
		m.tokens[v.ID] = v.Tokens
	}
	for _, v := range g.n {
		if v.Tenant < 0 || v.Tenant > 255 || v.N < 1 || v.N > m.tokens[v.Parcel] {
			return false
		}
		m.given[[2]int{v.Parcel, v.Tenant}] = v.N
	}
	// What is there twice, or in another order, does not come out as it went in.
	if !slices.Equal(m.parcels(), g.p) || !slices.Equal(m.issued(), g.n) || !slices.Equal(sorted(g.l), g.l) {
		return false
	}
	for i, c := range g.l {
		if i > 0 && called(c) == called(g.l[i-1]) || !m.takes(c) {
			return false
		}
	}
	return true
}

// takes tells whether one may be there.
func (m list) takes(c api.Cap) bool {
	_, ok := m.tokens[c.Parcel]
	if !ok || !fair(c) || c.Issuer < 0 || c.Issuer > 255 || c.N < 0 || c.N >= m.given[[2]int{c.Parcel, c.Issuer}] {
		return false
	}
	if c.FromI == -1 && c.FromN == 0 {
		return true
	}
	parent, ok := m.get(title{c.Parcel, c.FromI, c.FromN})
	return ok && parent.Holder == c.Issuer && !wider(c, parent) && len(m.line(c)) <= len(m.caps)
}

// edges is numbers that are, or are beside, the end of what may be.
func edges() []int {
	return []int{-2, -1, 0, 1, 2, 3, 4, 8, 9, 15, 16, 17, 254, 255, 256, 257, 65534, 65535, 65536, api.MaxTick - 1, api.MaxTick, math.MaxInt, math.MinInt}
}

// hold holds all that a Tree tells against a list.
func hold(t *testing.T, what string, x *Tree, m list) {
	t.Helper()
	if got, want := x.All(), sorted(m.caps); !slices.Equal(got, want) {
		t.Fatalf("P16.2 %s: All: %v, not %v", what, got, want)
	}
	if got, want := x.Issued(), m.issued(); !slices.Equal(got, want) {
		t.Fatalf("P16.2 %s: Issued: %v, not %v", what, got, want)
	}
	for _, n := range m.about() {
		got, ok := x.Get(n[0], n[1], n[2])
		if want, there := m.get(n); got != want || ok != there {
			t.Fatalf("P16.2 %s: Get(%v): %v, %v, not %v", what, n, got, ok, want)
		}
		if got, want := x.Under(n[0], n[1], n[2]), m.under(n); !slices.Equal(got, want) {
			t.Fatalf("P16.2 %s: Under(%v): %v, not %v", what, n, got, want)
		}
	}
	for _, c := range m.caps {
		holdTenant(t, what, x, m, c.Holder, c.Parcel, c.Label, c.Until-1)
		holdTenant(t, what, x, m, c.Holder, c.Parcel, c.Label+1, c.Until)
		holdTenant(t, what, x, m, c.Issuer, c.Parcel, 0, 0)
		if p, ok := m.get(title{c.Parcel, c.FromI, c.FromN}); c.FromI >= 0 && (!ok || wider(c, p)) {
			t.Fatalf("P16.4 %s: %v is wider than %v", what, c, p)
		}
	}
}

// about is the names of a list, and some that are none of it.
func (m list) about() []title {
	l := []title{{0, 0, 0}, {1, -1, 0}, {1, 0, -1}, {256, 256, 16}, {math.MaxInt, math.MaxInt, math.MaxInt}, {math.MinInt, math.MinInt, math.MinInt}}
	for _, c := range m.caps {
		n := called(c)
		l = append(l, n, title{n[0], n[1], n[2] + 1}, title{n[0], n[1] + 1, n[2]}, title{n[0] + 1, n[1], n[2]}, title{n[0], c.FromI, c.FromN})
	}
	return l
}

// holdTenant holds what a tenant has against a list.
func holdTenant(t *testing.T, what string, x *Tree, m list, tenant, parcel, label, now int) {
	t.Helper()
	if got, want := x.Held(tenant, parcel, now), m.held(tenant, parcel, now); !slices.Equal(got, want) {
		t.Fatalf("P16.2 %s: Held(%d, %d, %d): %v, not %v", what, tenant, parcel, now, got, want)
	}
	if got, want := x.Rights(tenant, parcel, label, now), m.rights(tenant, parcel, label, now); got != want {
		t.Fatalf("P16.2 %s: Rights(%d, %d, %d, %d): %d, not %d", what, tenant, parcel, label, now, got, want)
	}
}

// made is the Tree of a list, as it must be.
func made(t *testing.T, m list) *Tree {
	t.Helper()
	g := m.lists()
	x, e := New(g.l, g.n, g.p)
	if e != api.OK || x == nil {
		t.Fatalf("P16.1 New of %v: %v, %d", g, x, e)
	}
	hold(t, "New", x, m)
	return x
}

// grown is a list of few parcels, tenants and labels, some of whose names are gone.
func grown(d *plain.Dice, most int) list {
	m := list{nil, map[[2]int]int{}, map[int]int{}}
	ids := plain.Mix(d, []int{1, 2, 3, 200, 254, 255})[:1+d.Below(3)]
	for _, id := range ids {
		m.tokens[id] = d.Below(17)
	}
	for range d.Below(most + 1) {
		id := ids[d.Below(len(ids))]
		c := some(d)
		c.Parcel, c.Issuer, c.FromI, c.FromN = id, tenant(d), -1, 0
		if len(m.caps) > 0 && d.Below(4) > 0 {
			p := m.caps[d.Below(len(m.caps))]
			c = lesser(d, c, p)
		}
		k := [2]int{c.Parcel, c.Issuer}
		if c.N = m.given[k]; c.N < m.tokens[c.Parcel] {
			m.given[k]++
			m.caps = append(m.caps, c)
		}
	}
	for range d.Below(3) {
		if len(m.caps) > 0 {
			n := called(m.caps[d.Below(len(m.caps))])
			gone := m.under(n)
			m.caps = slices.DeleteFunc(m.caps, func(c api.Cap) bool { return slices.Contains(gone, c) })
		}
	}
	return m
}

// tenant is one of few.
func tenant(d *plain.Dice) int { return []int{0, 1, 2, 3, 255}[d.Below(5)] }

// some is what one may give.
func some(d *plain.Dice) api.Cap {
	return api.Cap{
		Holder: tenant(d),
		Label:  []int{0, 0, 0, 1, 2, 65535}[d.Below(6)],
		Rights: (1 + d.Below(15)) | []int{0, 8, 15}[d.Below(3)],
		Until:  []int{5, 10, 20, 30, 1<<32 - 1}[d.Below(5)],
	}
}

// lesser is one as far as its parent has it.
func lesser(d *plain.Dice, c, p api.Cap) api.Cap {
	c.Parcel, c.Issuer, c.FromI, c.FromN = p.Parcel, p.Holder, p.Issuer, p.N
	if p.Label != 0 {
		c.Label = p.Label
	}
	c.Until = min(c.Until, p.Until)
	if c.Rights &= p.Rights; c.Rights == 0 || d.Below(3) == 0 {
		c.Rights = p.Rights
	}
	return c
}
