package rights

import (
	"math"
	"slices"
	"testing"

	"hectare/api"
	"hectare/plain"
)

// odd is numbers of which some are rights, and some look as if they were.
func odd() []int {
	l := []int{math.MinInt, math.MinInt + 1, math.MinInt + 5, math.MaxInt, math.MaxInt - 1, math.MaxInt - 15, math.MaxInt32, math.MinInt32}
	for r := -40; r < 300; r++ {
		l = append(l, r)
	}
	for i := 4; i < 63; i++ {
		l = append(l, 1<<i, 1<<i|3, 1<<i|15, -1<<i, -1<<i|9)
	}
	return l
}

// list is the letters of some rights, from the lowest bit on; false of what is none.
func list(r int) ([]rune, bool) {
	if r < 0 || r > 15 {
		return nil, false
	}
	var l []rune
	for _, v := range "rwag" {
		if r%2 == 1 {
			l = append(l, v)
		}
		r /= 2
	}
	return l, true
}

// among tells whether each letter is one of others.
func among(l, of []rune) bool {
	return !slices.ContainsFunc(l, func(v rune) bool { return !slices.Contains(of, v) })
}

func TestValid(t *testing.T) {
	for _, r := range odd() {
		l, ok := list(r)
		if want := ok && len(l) > 0; Valid(r) != want {
			t.Errorf("P15.1 Valid(%d): %v", r, !want)
		}
	}
}

func TestWithinAndCan(t *testing.T) {
	for _, r := range odd() {
		l, ok := list(r)
		for _, s := range odd() {
			m, good := list(s)
			good = good && ok
			if want := good && r > 0 && s > 0 && among(l, m); Within(r, s) != want {
				t.Errorf("P15.1 Within(%d, %d): %v", r, s, !want)
			}
			if want := good && among(m, l); Can(r, s) != want {
				t.Errorf("P15.1 Can(%d, %d): %v", r, s, !want)
			}
		}
	}
}

func TestBits(t *testing.T) {
	for i, r := range []int{api.Read, api.Write, api.Admin, api.Grant} {
		if Text(r) != "rwag"[i:i+1] || !Valid(r) || !Within(r, 15) || !Can(15, r) || Can(15-r, r) || Within(r, 15-r) {
			t.Errorf("P15.1: bit %d, %q", r, Text(r))
		}
	}
}

func TestTextRows(t *testing.T) {
	rows := []string{"-", "r", "w", "rw", "a", "ra", "wa", "rwa", "g", "rg", "wg", "rwg", "ag", "rag", "wag", "rwag"}
	for r, want := range rows {
		if got := Text(r); got != want {
			t.Errorf("P15.1 Text(%d): %q, not %q", r, got, want)
		}
	}
}

func TestTextOdd(t *testing.T) {
	for _, r := range odd() {
		l, ok := list(r)
		want := string(l)
		if r == 0 {
			want = "-"
		}
		if got := Text(r); got != want || (got == "") == ok {
			t.Errorf("P15.1 Text(%d): %q, not %q", r, got, want)
		}
	}
}

func TestNarrowerRows(t *testing.T) {
	rows := []struct {
		name string
		turn func(c, p *api.Cap)
		want bool
	}{
		{"as it is", func(c, p *api.Cap) {}, true},
		{"all but its own place", func(c, p *api.Cap) {
			*c = *p
			c.FromI, c.FromN = p.Issuer, p.N
		}, true},
		{"the parent itself", func(c, p *api.Cap) { *c = *p }, false},
		{"another parcel", func(c, p *api.Cap) { c.Parcel = 4 }, false},
		{"a lesser parcel", func(c, p *api.Cap) { c.Parcel = 2 }, false},
		{"the parent's rights", func(c, p *api.Cap) { c.Rights = p.Rights }, true},
		{"all rights", func(c, p *api.Cap) { c.Rights = 15 }, false},
		{"another right", func(c, p *api.Cap) { c.Rights = api.Write }, false},
		{"a right less, and another one", func(c, p *api.Cap) { c.Rights = api.Read | api.Write }, false},
		{"no rights", func(c, p *api.Cap) { c.Rights = 0 }, false},
		{"rights above", func(c, p *api.Cap) { c.Rights = 16 | api.Read }, false},
		{"rights below", func(c, p *api.Cap) { c.Rights = -1 }, false},
		{"a parent without rights", func(c, p *api.Cap) { c.Rights, p.Rights = 0, 0 }, false},
		{"a parent with rights above", func(c, p *api.Cap) { p.Rights |= 16 }, false},
		{"a parent with rights below", func(c, p *api.Cap) { p.Rights = -1 }, false},
		{"both with rights above", func(c, p *api.Cap) { c.Rights, p.Rights = 16, 16 }, false},
		{"until the parent's", func(c, p *api.Cap) { c.Until = p.Until }, true},
		{"until one more", func(c, p *api.Cap) { c.Until = p.Until + 1 }, false},
		{"until below 0", func(c, p *api.Cap) { c.Until = -9 }, true},
		{"both until below 0", func(c, p *api.Cap) { c.Until, p.Until = -9, -8 }, true},
		{"until far from each other", func(c, p *api.Cap) { c.Until, p.Until = math.MinInt, math.MaxInt }, true},
		{"until far, the other way", func(c, p *api.Cap) { c.Until, p.Until = math.MaxInt, math.MinInt }, false},
		{"another label", func(c, p *api.Cap) { c.Label = 8 }, false},
		{"a lesser label", func(c, p *api.Cap) { c.Label = 6 }, false},
		{"all of the parcel", func(c, p *api.Cap) { c.Label = 0 }, false},
		{"a label of all of the parcel", func(c, p *api.Cap) { p.Label = 0 }, true},
		{"all of all of the parcel", func(c, p *api.Cap) { c.Label, p.Label = 0, 0 }, true},
		{"the same label below 0", func(c, p *api.Cap) { c.Label, p.Label = -1, -1 }, true},
		{"another one's issuer", func(c, p *api.Cap) { c.FromI = 2 }, false},
		{"no parent", func(c, p *api.Cap) { c.FromI, c.FromN = -1, 0 }, false},
		{"an issuer below 0", func(c, p *api.Cap) { c.FromI, p.Issuer = -1, -1 }, true},
		{"another number", func(c, p *api.Cap) { c.FromN = 5 }, false},
		{"a lesser number", func(c, p *api.Cap) { c.FromN = 3 }, false},
		{"turned round", func(c, p *api.Cap) { c.FromI, c.FromN = p.N, p.Issuer }, false},
		{"the grandparent's", func(c, p *api.Cap) { c.FromI, c.FromN = p.FromI, p.FromN }, false},
		{"whoever issued it", func(c, p *api.Cap) { c.Issuer, c.N = 77, 12 }, true},
		{"whoever holds them", func(c, p *api.Cap) { c.Holder, p.Holder = -3, 1<<40 }, true},
		{"whoever is the parent's parent", func(c, p *api.Cap) { p.FromI, p.FromN = 200, 9 }, true},
	}
	for _, row := range rows {
		p := api.Cap{Parcel: 3, Issuer: 1, N: 4, Holder: 2, Label: 7, Rights: api.Read | api.Admin, Until: 50, FromI: 6, FromN: 8}
		c := api.Cap{Parcel: 3, Issuer: 2, N: 0, Holder: 9, Label: 7, Rights: api.Read, Until: 49, FromI: 1, FromN: 4}
		row.turn(&c, &p)
		if got := Narrower(c, p); got != row.want {
			t.Errorf("P15.2 %s: %v", row.name, got)
		}
	}
}

// some is a capability of few numbers, so that two of them often agree.
func some(d *plain.Dice) api.Cap {
	return api.Cap{
		Parcel: 1 + d.Below(8)/7,
		Issuer: d.Below(2),
		N:      d.Below(2),
		Holder: d.Below(3),
		Label:  d.Below(3) * d.Below(2),
		Rights: d.Below(18) - 1,
		Until:  d.Below(4),
		FromI:  d.Below(2) - d.Below(4)/3,
		FromN:  d.Below(2),
	}
}

// wider names what a capability has that another one has not; none of one that is no wider.
func wider(c, p api.Cap) []string {
	var l []string
	if c.Parcel != p.Parcel {
		l = append(l, "parcel")
	}
	if !Within(c.Rights, p.Rights) {
		l = append(l, "rights")
	}
	if c.Until > p.Until {
		l = append(l, "time")
	}
	if p.Label != 0 && c.Label != p.Label {
		l = append(l, "label")
	}
	return l
}

func TestNarrowerRandom(t *testing.T) {
	d, yes := plain.Dice(15), 0
	for range 200000 {
		c, p := some(&d), some(&d)
		want := c.FromI == p.Issuer && c.FromN == p.N && len(wider(c, p)) == 0
		if got := Narrower(c, p); got != want {
			t.Fatalf("P15.2 Narrower(%v, %v): %v", c, p, got)
		}
		if want {
			yes++
		}
	}
	if yes < 1000 {
		t.Errorf("P15.2: only %d of them were narrower", yes)
	}
}

func TestWithinGoesOn(t *testing.T) {
	for a := -1; a < 18; a++ {
		for b := -1; b < 18; b++ {
			for c := -1; c < 18; c++ {
				if Within(a, b) && Within(b, c) && !Within(a, c) {
					t.Errorf("P15.3: %d, %d, %d", a, b, c)
				}
			}
		}
	}
}

func TestNarrowerGoesOn(t *testing.T) {
	d, yes := plain.Dice(3), 0
	for range 500000 {
		a, b, c := some(&d), some(&d), some(&d)
		b.FromI, b.FromN = a.Issuer, a.N
		c.FromI, c.FromN = b.Issuer, b.N
		if !Narrower(c, b) || !Narrower(b, a) {
			continue
		}
		yes++
		c.FromI, c.FromN = a.Issuer, a.N
		if l := wider(c, a); len(l) > 0 || !Narrower(c, a) {
			t.Fatalf("P15.3: %v beyond %v: %v", c, a, l)
		}
	}
	if yes < 1000 {
		t.Errorf("P15.3: only %d went on", yes)
	}
}
