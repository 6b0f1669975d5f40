package region

import (
	"slices"

	"hectare/api"
	"hectare/cdt"
	"hectare/flood"
	"hectare/tri"
)

// After says that the mesh was changed.
func (t *Table) After(c *cdt.CDT) api.Errno {
	if t == nil {
		return api.Malformed
	}
	n, ok := t.news(c, 0)
	if !ok || len(n.lost) > 0 {
		return api.Malformed
	}
	t.settle(n.stay)
	return api.OK
}

// Divide says that one is two.
func (t *Table) Divide(c *cdt.CDT, parcel, label, to, owner int) api.Errno {
	p := t.find(parcel, label)
	switch {
	case p == nil:
		return api.None
	case t.find(parcel, to) != nil:
		return api.Have
	case !isLabel(to):
		return api.Malformed
	case len(t.Names(parcel)) >= api.MaxRegions:
		return api.Full
	}
	n, ok := t.news(c, 1)
	if !ok || !slices.Equal(n.lost, []*plot{p}) {
		return api.Malformed
	}
	first, second := p.on(n.come[0]), p.on(n.come[1])
	second.region.Label, second.region.Owner = to, owner
	t.settle(append(n.stay, first, second))
	return api.OK
}

// Unite says that two are one.
func (t *Table) Unite(c *cdt.CDT, parcel, label, other int) api.Errno {
	p, q := t.find(parcel, label), t.find(parcel, other)
	if p == nil || q == nil || p == q {
		return api.None
	}
	n, ok := t.news(c, -1)
	if !ok || !slices.Equal(n.lost, []*plot{p, q}) && !slices.Equal(n.lost, []*plot{q, p}) {
		return api.Malformed
	}
	both := p.on(n.come[0])
	if both.crowded() {
		return api.Full
	}
	t.settle(append(n.stay, both))
	return api.OK
}

// news is what became of the regions of a mesh that was changed.
type news struct {
	stay []*plot     // those that are one part of it, on their triangles of now
	lost []*plot     // those that are none, by their Seeds
	come [][]api.Tri // the parts that are no region, in order
}

// news is what became of the regions; false, unless there are so many more parts than regions, and
// all that these cover is covered.
//
// A region has points in common with one part alone, and that part with no other region, just
// if both cover the same of what was covered: so it is enough to look at what lies around them.
func (t *Table) news(c *cdt.CDT, more int) (news, bool) {
	if c == nil {
		return news{}, false
	}
	parts := flood.Parts(c.Mesh(), c.Walls(), api.Inner)
	s, now := t.square(), covered(parts)
	if len(parts) != len(t.plots)+more || now.w < s.w || now.h < s.h {
		return news{}, false
	}
	n, changed := t.unchanged(parts)
	var outlines [][]piece
	for _, p := range n.lost {
		outlines = append(outlines, s.outline(p.tris))
	}
	for _, part := range changed {
		o := s.outline(part)
		i := slices.IndexFunc(outlines, func(was []piece) bool { return s.same(was, o) })
		if i < 0 {
			n.come = append(n.come, part)
			continue
		}
		n.stay = append(n.stay, n.lost[i].on(part))
		n.lost, outlines = slices.Delete(n.lost, i, i+1), slices.Delete(outlines, i, i+1)
	}
	return n, true
}

// unchanged is the news as far as regions stay on just the triangles that they had, and the
// parts that have others.
func (t *Table) unchanged(parts [][]api.Tri) (news, [][]api.Tri) {
	var n news
	changed := slices.Clone(parts)
	for _, p := range t.plots {
		i, is := slices.BinarySearchFunc(parts, p.region.Seed, func(part []api.Tri, x api.Tri) int { return tri.Cmp(part[0], x) })
		if is && slices.Equal(parts[i], p.tris) {
			n.stay, changed[i] = append(n.stay, p), nil
		} else {
			n.lost = append(n.lost, p)
		}
	}
	return n, slices.DeleteFunc(changed, func(part []api.Tri) bool { return part == nil })
}

// square is what the regions cover.
func (t *Table) square() square {
	var parts [][]api.Tri
	for _, p := range t.plots {
		parts = append(parts, p.tris)
	}
	return covered(parts)
}
