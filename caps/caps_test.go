package caps

import (
	"slices"
	"testing"

	"hectare/api"
	"hectare/plain"
)

// root is one without a parent, in parcel 1, by tenant 0.
func root(n, holder, label, rights, until int) api.Cap {
	return api.Cap{Parcel: 1, N: n, Holder: holder, Label: label, Rights: rights, Until: until, FromI: -1}
}

// child is one of parcel 1 that another one is the parent of.
func child(n int, of api.Cap, holder, label, rights, until int) api.Cap {
	return api.Cap{Parcel: 1, Issuer: of.Holder, N: n, Holder: holder, Label: label, Rights: rights, Until: until, FromI: of.Issuer, FromN: of.N}
}

// family is three lines: one of three, of whom the last two stand side by side, one whose parent
// has no Grant, and one alone in another parcel.
func family() list {
	a := root(0, 1, 0, 15, 100)
	b := child(0, a, 2, 7, 11, 90)
	c, d := child(0, b, 3, 7, 1, 80), child(1, b, 1, 7, 9, 90)
	e := root(2, 4, 5, 3, 50)
	f := child(0, e, 5, 5, 2, 40)
	g := api.Cap{Parcel: 9, Issuer: 2, N: 3, Holder: 1, Label: 7, Rights: 9, Until: 70, FromI: -1}
	return list{
		[]api.Cap{a, b, c, d, e, f, g},
		map[[2]int]int{{1, 0}: 3, {1, 1}: 1, {1, 2}: 2, {1, 4}: 1, {9, 2}: 4, {9, 255}: 1},
		map[int]int{1: 3, 9: 5, 255: 0},
	}
}

func TestCmp(t *testing.T) {
	d := plain.Dice(16)
	ns := []int{-1 << 63, -1, 0, 1, 2, 1<<63 - 1}
	for range 20000 {
		a, b := api.Cap{Holder: d.Below(3), Label: d.Below(3), FromN: d.Below(3)}, some(&d)
		v := title{ns[d.Below(6)], ns[d.Below(6)], ns[d.Below(6)]}
		w := title{v[0], v[1], ns[d.Below(6)]}
		if d.Below(2) == 0 {
			w = title{v[0], ns[d.Below(6)], ns[d.Below(6)]}
		} else if d.Below(2) == 0 {
			w = title{ns[d.Below(6)], ns[d.Below(6)], ns[d.Below(6)]}
		}
		a.Parcel, a.Issuer, a.N = v[0], v[1], v[2]
		b.Parcel, b.Issuer, b.N = w[0], w[1], w[2]
		want := slices.Compare(v[:], w[:])
		if Cmp(a, b) != want || Cmp(b, a) != -want || Cmp(a, a) != 0 {
			t.Fatalf("P16.1 Cmp(%v, %v): %d, not %d", v, w, Cmp(a, b), want)
		}
	}
}

// given is what New is given.
type given struct {
	l []api.Cap
	n []api.Issued
	p []api.Parcel
}

// lists is what a list would give to New.
func (m list) lists() given { return given{sorted(m.caps), m.issued(), m.parcels()} }

func TestNewLists(t *testing.T) {
	rows := []struct {
		what string
		turn func(g *given)
		good bool
	}{
		{"as it is", func(g *given) {}, true},
		{"nothing", func(g *given) { *g = given{} }, true},
		{"empty lists", func(g *given) { *g = given{[]api.Cap{}, []api.Issued{}, []api.Parcel{}} }, true},
		{"no capabilities", func(g *given) { g.l = nil }, true},
		{"parcels alone", func(g *given) { g.l, g.n = nil, nil }, true},
		{"no parcels", func(g *given) { g.p = nil }, false},
		{"no counts", func(g *given) { g.n = nil }, false},
		{"counts without parcels", func(g *given) { g.l, g.p = nil, nil }, false},
		{"a parcel less", func(g *given) { g.p = g.p[1:] }, false},
		{"a parcel that nobody needs less", func(g *given) { g.p = g.p[:2] }, true},
		{"a parcel twice", func(g *given) { g.p = append(g.p, g.p[2]) }, false},
		{"parcels that fall", func(g *given) { g.p[0], g.p[1] = g.p[1], g.p[0] }, false},
		{"a count twice", func(g *given) { g.n = append(g.n, g.n[len(g.n)-1]) }, false},
		{"counts that fall", func(g *given) { g.n[0], g.n[1] = g.n[1], g.n[0] }, false},
		{"a count that nobody needs less", func(g *given) { g.n = g.n[:len(g.n)-1] }, true},
		{"a count where there are no Tokens", func(g *given) { g.n = append(g.n, api.Issued{Parcel: 255, N: 1}) }, false},
		{"one twice", func(g *given) { g.l = append(g.l, g.l[len(g.l)-1]) }, false},
		{"one and another one of its name", func(g *given) {
			g.l = append(g.l, g.l[len(g.l)-1])
			g.l[len(g.l)-1].Holder++
		}, false},
		{"some that fall", func(g *given) { g.l[0], g.l[1] = g.l[1], g.l[0] }, false},
		{"a child without its parent", func(g *given) { g.l = g.l[1:] }, false},
		{"a parent without its child", func(g *given) { g.l = slices.Delete(g.l, 3, 4) }, true},
	}
	for _, r := range rows {
		g := family().lists()
		r.turn(&g)
		verdict(t, r.what, g, r.good)
	}
}

// verdict holds what New says against what it must say.
func verdict(t *testing.T, what string, g given, good bool) {
	t.Helper()
	if takes(g) != good {
		t.Fatalf("%s: the list says %v of %v", what, !good, g)
	}
	l, n, p := slices.Clone(g.l), slices.Clone(g.n), slices.Clone(g.p)
	x, e := New(g.l, g.n, g.p)
	if good != (e == api.OK && x != nil) || !good && (e != api.Malformed || x != nil) {
		t.Fatalf("P16.1 %s: New of %v: %d, %v", what, g, e, x)
	}
	if good && (!slices.Equal(x.All(), l) || !slices.Equal(x.Issued(), n)) {
		t.Fatalf("P16.2 %s: All, Issued of %v: %v, %v", what, g, x.All(), x.Issued())
	}
	if !slices.Equal(g.l, l) || !slices.Equal(g.n, n) || !slices.Equal(g.p, p) {
		t.Fatalf("P16.4 %s: New changes what it is given: %v", what, g)
	}
}

// fields is what a capability is made of.
func fields(c *api.Cap) []*int {
	return []*int{&c.Parcel, &c.Issuer, &c.N, &c.Holder, &c.Label, &c.Rights, &c.Until, &c.FromI, &c.FromN}
}

// numbers is all that New is given, one by one.
func (g given) numbers() []*int {
	var all []*int
	for i := range g.l {
		all = append(all, fields(&g.l[i])...)
	}
	for i := range g.n {
		all = append(all, &g.n[i].Parcel, &g.n[i].Tenant, &g.n[i].N)
	}
	for i := range g.p {
		all = append(all, &g.p[i].ID, &g.p[i].Tokens)
	}
	return all
}

// TestNewNumbers turns each number of all that New is given into each that is at an edge.
func TestNewNumbers(t *testing.T) {
	good := map[bool]int{}
	for i := range family().lists().numbers() {
		for _, k := range edges() {
			g := family().lists()
			*g.numbers()[i] = k
			may := takes(g)
			good[may]++
			verdict(t, "one number turned", g, may)
		}
	}
	if good[true] < 100 || good[false] < 500 {
		t.Errorf("too few of some: %v", good)
	}
}

func TestNewRows(t *testing.T) {
	rows := []struct {
		what string
		turn func(l []api.Cap)
		good bool
	}{
		{"as it is", func(l []api.Cap) {}, true},
		{"a parent without Grant", func(l []api.Cap) { l[0].Rights = 7 }, false},
		{"lines without Grant", func(l []api.Cap) { l[0].Rights, l[2].Rights, l[4].Rights = 7, 7, 1 }, true},
		{"a parent whose time is up", func(l []api.Cap) { l[1].Until, l[5].Until = 0, 0 }, true},
		{"a child that lasts longer", func(l []api.Cap) { l[2].Until = 101 }, false},
		{"a child that lasts as long", func(l []api.Cap) { l[2].Until = 100 }, true},
		{"a child with more rights", func(l []api.Cap) { l[5].Rights = 4 }, false},
		{"a child of another label", func(l []api.Cap) { l[5].Label = 6 }, false},
		{"a child of all labels", func(l []api.Cap) { l[5].Label = 0 }, false},
		{"all of all labels", func(l []api.Cap) { l[1].Label, l[5].Label = 0, 0 }, true},
		{"a parent of another Holder", func(l []api.Cap) { l[1].Holder = 1 }, false},
		{"a child of another Holder", func(l []api.Cap) { l[5].Holder = 77 }, true},
		{"a child of another parent", func(l []api.Cap) { l[5].FromI, l[5].FromN = 2, 1 }, false},
		{"a parent of another parcel", func(l []api.Cap) { l[6].Issuer, l[6].N, l[6].FromI = 2, 0, 1 }, false},
		{"a parent that was taken back", func(l []api.Cap) { l[5].FromN = 1 }, false},
		{"no parent, with a number", func(l []api.Cap) { l[6].FromN = 1 }, false},
		{"no parent any more", func(l []api.Cap) { l[5].FromI, l[5].FromN = -1, 0 }, true},
		{"two of one's own", func(l []api.Cap) { l[0].Holder, l[2].Issuer = 0, 0 }, false},
	}
	for _, r := range rows {
		g := family().lists()
		r.turn(g.l)
		verdict(t, r.what, g, r.good)
	}
}

// ring is some of which each is the parent of the next one, and the last one that of the first.
func ring(k int) list {
	m := list{nil, map[[2]int]int{}, map[int]int{1: 2}}
	for i := range k {
		m.caps = append(m.caps, api.Cap{Parcel: 1, Issuer: i, Holder: (i + 1) % k, Rights: 15, Until: 9, FromI: (i + k - 1) % k})
		m.given[[2]int{1, i}] = 1
	}
	return m
}

// TestNewRound is of some that are below themselves.
func TestNewRound(t *testing.T) {
	for k := 1; k < 40; k++ {
		m := ring(k)
		verdict(t, "a ring", m.lists(), false)
		m.caps[k/2].FromI = -1
		verdict(t, "a ring that is cut", m.lists(), true)
		m = ring(k)
		m.caps = append(m.caps, api.Cap{Parcel: 1, Issuer: 0, N: 1, Holder: 200, Rights: 1, FromI: k - 1})
		m.given[[2]int{1, 0}] = 2
		verdict(t, "a ring, and one below it", m.lists(), false)
		m.caps[k/2].FromI = -1
		verdict(t, "a line, and one below it", m.lists(), true)
	}
}

// TestNewWild is of parents that are found by chance, so that many are below themselves.
func TestNewWild(t *testing.T) {
	d := plain.Dice(161)
	good := map[bool]int{}
	for range 6000 {
		m := list{nil, map[[2]int]int{}, map[int]int{1: 16}}
		for range 1 + d.Below(8) {
			k := [2]int{1, d.Below(2)}
			m.caps = append(m.caps, api.Cap{Parcel: 1, Issuer: k[1], N: m.given[k], Holder: d.Below(2), Rights: 1, Until: 3, FromI: -1})
			m.given[k]++
		}
		for i, c := range m.caps {
			p := m.caps[d.Below(len(m.caps))]
			if p.Holder == c.Issuer && d.Below(4) > 0 {
				m.caps[i].FromI, m.caps[i].FromN = p.Issuer, p.N
			}
		}
		may := takes(m.lists())
		good[may]++
		verdict(t, "by chance", m.lists(), may)
	}
	if good[true] < 1000 || good[false] < 1000 {
		t.Errorf("too few of some: %v", good)
	}
}

// TestNewRandom is of lists that may be, and of these with something turned.
func TestNewRandom(t *testing.T) {
	d := plain.Dice(1616)
	good := map[bool]int{}
	for range 1500 {
		m := grown(&d, 30)
		made(t, m)
		for range 10 {
			g := m.lists()
			g.spoil(&d)
			may := takes(g)
			good[may]++
			verdict(t, "spoiled", g, may)
		}
	}
	if good[true] < 1000 || good[false] < 1000 {
		t.Errorf("too few of some: %v", good)
	}
}

// spoil turns one thing, or takes one away.
func (g *given) spoil(d *plain.Dice) {
	switch d.Below(8) {
	case 0:
		g.l = without(d, g.l)
	case 1:
		g.n = without(d, g.n)
	case 2:
		swap(d, g.l)
	case 3:
		swap(d, g.n)
	default:
		all := g.numbers()
		k := all[d.Below(len(all))]
		if *k += d.Below(5) - 2; d.Below(4) == 0 {
			*k = edges()[d.Below(len(edges()))]
		}
	}
}

// without is some but one of them.
func without[T any](d *plain.Dice, l []T) []T {
	if len(l) == 0 {
		return l
	}
	i := d.Below(len(l))
	return slices.Delete(l, i, i+1)
}

// swap puts two in each other's places.
func swap[T any](d *plain.Dice, l []T) {
	if len(l) > 0 {
		i, j := d.Below(len(l)), d.Below(len(l))
		l[i], l[j] = l[j], l[i]
	}
}

func TestHeldAndRights(t *testing.T) {
	m := list{
		[]api.Cap{root(0, 5, 0, 4, 9), root(1, 5, 3, 1, 12), root(2, 5, 8, 2, 9), root(3, 6, 0, 8, 9)},
		map[[2]int]int{{1, 0}: 4}, map[int]int{1: 4},
	}
	x := made(t, m)
	rows := []struct {
		tenant, parcel, label, now, held, rights int
	}{
		{5, 1, 0, 0, 3, 4}, {5, 1, 3, 0, 3, 5}, {5, 1, 8, 0, 3, 6}, {5, 1, 9, 0, 3, 4}, {5, 1, -1, 0, 3, 4}, {5, 1, 65536, 0, 3, 4},
		{5, 1, 3, 8, 3, 5}, {5, 1, 3, 9, 1, 1}, {5, 1, 8, 9, 1, 0}, {5, 1, 0, 9, 1, 0}, {5, 1, 3, 11, 1, 1}, {5, 1, 3, 12, 0, 0},
		{5, 1, 3, -1 << 63, 3, 5}, {5, 1, 3, 1<<63 - 1, 0, 0}, {6, 1, 3, 0, 1, 8}, {0, 1, 3, 0, 0, 0}, {-1, 1, 0, 0, 0, 0},
		{5, 2, 3, 0, 0, 0}, {5, 0, 3, 0, 0, 0}, {5, -1, 3, 0, 0, 0}, {5 + 1<<32, 1, 3, 0, 0, 0}, {5, 1 + 1<<32, 3, 0, 0, 0},
	}
	for _, r := range rows {
		if got := len(x.Held(r.tenant, r.parcel, r.now)); got != r.held {
			t.Errorf("P16.2 Held(%d, %d, %d): %d", r.tenant, r.parcel, r.now, got)
		}
		if got := x.Rights(r.tenant, r.parcel, r.label, r.now); got != r.rights {
			t.Errorf("P16.2 Rights(%d, %d, %d, %d): %d", r.tenant, r.parcel, r.label, r.now, got)
		}
	}
}

func TestUnderRows(t *testing.T) {
	x := made(t, family())
	rows := []struct {
		of   title
		want []title
	}{
		{title{1, 0, 0}, []title{{1, 0, 0}, {1, 1, 0}, {1, 2, 0}, {1, 2, 1}}},
		{title{1, 1, 0}, []title{{1, 1, 0}, {1, 2, 0}, {1, 2, 1}}},
		{title{1, 2, 1}, []title{{1, 2, 1}}},
		{title{1, 0, 2}, []title{{1, 0, 2}, {1, 4, 0}}},
		{title{9, 2, 3}, []title{{9, 2, 3}}},
		{title{1, 0, 1}, nil},
		{title{9, 0, 0}, nil},
		{title{1, -1, 0}, nil},
	}
	for _, r := range rows {
		if got := names(x.Under(r.of[0], r.of[1], r.of[2])); !slices.Equal(got, r.want) {
			t.Errorf("P16.2 Under(%v): %v", r.of, got)
		}
	}
}

// TestUnderOrder is of a line whose names fall as it goes down.
func TestUnderOrder(t *testing.T) {
	m := list{nil, map[[2]int]int{}, map[int]int{1: 1}}
	for i := range 30 {
		m.caps = append(m.caps, api.Cap{Parcel: 1, Issuer: 255 - i, Holder: 254 - i, Rights: 15, Until: 9, FromI: 256 - i})
		m.given[[2]int{1, 255 - i}] = 1
	}
	m.caps[0].FromI = -1
	x := made(t, m)
	if l := x.Under(1, 255, 0); len(l) != 30 || l[0].Issuer != 226 || l[29].Issuer != 255 {
		t.Errorf("P16.2 Under of a line that falls: %v", names(l))
	}
	if l, e := x.Revoke(230, 1, 240, 0); l != nil || e != api.Denied {
		t.Errorf("P16.3 Revoke by who issued what is below: %v, %d", names(l), e)
	}
	if l, e := x.Revoke(255, 1, 240, 0); len(l) != 15 || e != api.OK || l[0].Issuer != 226 || l[14].Issuer != 240 {
		t.Errorf("P16.3 Revoke by the first one: %v, %d", names(l), e)
	}
}

// TestUnderParcels is of three parcels that have the same line.
func TestUnderParcels(t *testing.T) {
	m := list{nil, map[[2]int]int{}, map[int]int{1: 9, 2: 9, 3: 9}}
	for parcel := 1; parcel < 4; parcel++ {
		for i := range 3 {
			m.caps = append(m.caps, api.Cap{Parcel: parcel, Issuer: 5, N: i, Holder: 5, Rights: 15, Until: 9, FromI: 5, FromN: i - 1})
		}
		m.caps[len(m.caps)-3].FromI, m.caps[len(m.caps)-3].FromN = -1, 0
		m.given[[2]int{parcel, 5}] = 3
	}
	x := made(t, m)
	if l := names(x.Under(2, 5, 1)); !slices.Equal(l, []title{{2, 5, 1}, {2, 5, 2}}) {
		t.Errorf("P16.2 Under of one of three parcels: %v", l)
	}
	x.Revoke(5, 1, 5, 0)
	m, _, _ = m.revoke(5, title{1, 5, 0})
	hold(t, "once a parcel is empty", x, m)
}
