package region

import (
	"slices"
	"testing"

	"hectare/api"
	"hectare/cdt"
	"hectare/flood"
	"hectare/plain"
)

var (
	pt = plain.Pt
	tr = plain.Tr
)

// held is a region and its triangles.
type held struct {
	r api.Region
	l []api.Tri
}

// list is regions, by their Seeds, as they are told.
type list []held

// has tells whether a triangle or its edges have a point.
func has(t api.Tri, p api.Point) bool {
	return plain.Twice(t.A, t.B, p) >= 0 && plain.Twice(t.B, t.C, p) >= 0 && plain.Twice(t.C, t.A, p) >= 0
}

// common tells whether two triangles have a point in common that is on no edge: they have
// none, if all of one lies beyond an edge of the other one.
func common(s, t api.Tri) bool {
	beyond := func(s, t api.Tri) bool {
		for _, v := range plain.Sides(s) {
			if plain.Twice(v[0], v[1], t.A) <= 0 && plain.Twice(v[0], v[1], t.B) <= 0 && plain.Twice(v[0], v[1], t.C) <= 0 {
				return true
			}
		}
		return false
	}
	return !beyond(s, t) && !beyond(t, s)
}

// meet tells whether some triangle of two lists have a point in common.
func meet(l, m []api.Tri) bool {
	return slices.ContainsFunc(l, func(s api.Tri) bool {
		return slices.ContainsFunc(m, func(t api.Tri) bool { return common(s, t) })
	})
}

// parts is what a mesh with walls falls into.
func parts(c *cdt.CDT, kind int) [][]api.Tri {
	return flood.Parts(c.Mesh(), c.Walls(), kind)
}

// find is where a region is; -1 of none.
func (l list) find(parcel, label int) int {
	return slices.IndexFunc(l, func(h held) bool { return h.r.Parcel == parcel && h.r.Label == label })
}

// names is the labels of a parcel.
func (l list) names(parcel int) []int {
	var out []int
	for _, h := range l {
		if h.r.Parcel == parcel {
			out = append(out, h.r.Label)
		}
	}
	slices.Sort(out)
	return out
}

// rename is what comes of another label.
func (l list) rename(parcel, label, to int) (list, api.Errno) {
	at := l.find(parcel, label)
	switch {
	case at < 0:
		return l, api.None
	case to < 1 || to > 65535:
		return l, api.Malformed
	case l.find(parcel, to) >= 0:
		return l, api.Have
	}
	l = slices.Clone(l)
	l[at].r.Label = to
	return l, api.OK
}

// block is some regions, by their places, and what comes of them: each of that is a part that
// has points in common with just these.
type block struct {
	of []int
	in []api.Region
}

// ones is blocks of all regions but some: each stays one.
func (l list) ones(but ...int) []block {
	var bs []block
	for i, h := range l {
		if !slices.Contains(but, i) {
			bs = append(bs, block{[]int{i}, []api.Region{h.r}})
		}
	}
	return bs
}

// after is what comes of a change.
func (l list) after(c *cdt.CDT) (list, api.Errno) {
	return l.change(c, l.ones())
}

// divide is what comes of one that becomes two.
func (l list) divide(c *cdt.CDT, parcel, label, to, owner int) (list, api.Errno) {
	at := l.find(parcel, label)
	switch {
	case at < 0:
		return l, api.None
	case l.find(parcel, to) >= 0:
		return l, api.Have
	case to < 1 || to > 65535:
		return l, api.Malformed
	case len(l.names(parcel)) > 15:
		return l, api.Full
	}
	first, second := l[at].r, l[at].r
	second.Label, second.Owner = to, owner
	return l.change(c, append(l.ones(at), block{[]int{at}, []api.Region{first, second}}))
}

// unite is what comes of two that become one.
func (l list) unite(c *cdt.CDT, parcel, label, other int) (list, api.Errno) {
	at, by := l.find(parcel, label), l.find(parcel, other)
	if at < 0 || by < 0 || at == by {
		return l, api.None
	}
	m, e := l.change(c, append(l.ones(at, by), block{[]int{min(at, by), max(at, by)}, []api.Region{l[at].r}}))
	if e != api.OK {
		return l, e
	}
	if h := m[m.find(parcel, label)]; len(plain.List(h.l).Points()) > h.r.Room {
		return l, api.Full
	}
	return m, api.OK
}

// change is what comes of blocks.
func (l list) change(c *cdt.CDT, bs []block) (list, api.Errno) {
	if c == nil || !l.covered(c) {
		return l, api.Malformed
	}
	all := parts(c, api.Inner)
	var whose [][]int
	for _, part := range all {
		var at []int
		for i, h := range l {
			if meet(h.l, part) {
				at = append(at, i)
			}
		}
		whose = append(whose, at)
	}
	var m list
	for _, b := range bs {
		n := len(m)
		for j, part := range all {
			if slices.Equal(whose[j], b.of) {
				if len(m)-n == len(b.in) {
					return l, api.Malformed
				}
				r := b.in[len(m)-n]
				r.Seed = part[0]
				m = append(m, held{r, part})
			}
		}
		if len(m)-n != len(b.in) {
			return l, api.Malformed
		}
	}
	if len(m) != len(all) {
		return l, api.Malformed
	}
	slices.SortFunc(m, func(h, g held) int { return slices.CompareFunc(corners(h.r.Seed), corners(g.r.Seed), plain.Order) })
	return m, api.OK
}

// covered tells whether a mesh, which covers a square, covers all corners of another one.
func (l list) covered(c *cdt.CDT) bool {
	all := c.Mesh().Tris()
	for _, h := range l {
		for _, p := range plain.List(h.l).Points() {
			if !slices.ContainsFunc(all, func(t api.Tri) bool { return has(t, p) }) {
				return false
			}
		}
	}
	return true
}

func corners(t api.Tri) []api.Point {
	return []api.Point{t.A, t.B, t.C}
}

// hold holds a Table against a list.
func hold(t *testing.T, what string, x *Table, l list) {
	t.Helper()
	var all []api.Region
	for _, h := range l {
		all = append(all, h.r)
	}
	if got := x.All(); !slices.Equal(got, all) {
		t.Fatalf("P14.2 %s: All: %v, want %v", what, got, all)
	}
	for _, h := range l {
		r, tris, ok := x.Find(h.r.Parcel, h.r.Label)
		if !ok || r != h.r || !slices.Equal(tris, h.l) {
			t.Fatalf("P14.2 %s: Find(%d, %d): %v, %v, %v, want %v", what, h.r.Parcel, h.r.Label, r, tris, ok, h)
		}
		room := h.r.Room - len(plain.List(h.l).Points())
		if got := x.Room(h.r.Parcel, h.r.Label); got != room {
			t.Fatalf("P14.2 %s: Room(%d, %d): %d, want %d", what, h.r.Parcel, h.r.Label, got, room)
		}
		for _, u := range h.l {
			if r, ok := x.Of(u); !ok || r != h.r {
				t.Fatalf("P14.2 %s: Of(%v): %v, %v, want %v", what, u, r, ok, h.r)
			}
		}
		if got := x.Names(h.r.Parcel); !slices.Equal(got, l.names(h.r.Parcel)) {
			t.Fatalf("P14.2 %s: Names(%d): %v, want %v", what, h.r.Parcel, got, l.names(h.r.Parcel))
		}
	}
}

// gone holds that triangles are of no region, unless a list has them.
func gone(t *testing.T, what string, x *Table, l list, tris []api.Tri) {
	t.Helper()
	for _, u := range tris {
		is := slices.ContainsFunc(l, func(h held) bool { return slices.Contains(h.l, u) })
		if r, ok := x.Of(u); ok != is || !is && r != (api.Region{}) {
			t.Fatalf("P14.2 %s: Of(%v): %v, %v", what, u, r, ok)
		}
	}
}
