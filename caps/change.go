package caps

import (
	"slices"

	"hectare/api"
	"hectare/rights"
)

// Issue issues one.
func (t *Tree) Issue(by int, parent, c api.Cap, now int) (int, api.Errno) {
	if !t.grants(by, parent, now) {
		return 0, api.Denied
	}
	if !bounded(c) {
		return 0, api.Malformed
	}
	c.Parcel, c.FromI, c.FromN = parent.Parcel, parent.Issuer, parent.N
	if !rights.Narrower(c, parent) || !live(c, now) {
		return 0, api.Wider
	}
	c.Issuer, c.N = by, t.given(c.Parcel, by)
	if c.N >= t.tokens(c.Parcel) {
		return 0, api.Full
	}
	t.put(c)
	return c.N, api.OK
}

// Revoke takes one back.
func (t *Tree) Revoke(by, parcel, issuer, n int) ([]api.Cap, api.Errno) {
	if !t.revokes(by, parcel, issuer, n) {
		return nil, api.Denied
	}
	gone := t.Under(parcel, issuer, n)
	// Their numbers stay counted, so that none of these names comes again.
	t.row = slices.DeleteFunc(t.row, func(c api.Cap) bool {
		_, goes := slices.BinarySearchFunc(gone, c, Cmp)
		return goes
	})
	return gone, api.OK
}

// grants tells whether a tenant may hand on what a capability gives, which must be just as
// the tenant says.
func (t *Tree) grants(by int, c api.Cap, now int) bool {
	here, there := t.Get(c.Parcel, c.Issuer, c.N)
	return there && here == c && c.Holder == by && live(c, now) && rights.Can(c.Rights, api.Grant)
}

// revokes tells whether a tenant may take one back: it, or what it is below, is the
// tenant's, or was issued by the tenant.
func (t *Tree) revokes(by, parcel, issuer, n int) bool {
	c, there := t.Get(parcel, issuer, n)
	for there && c.Holder != by && c.Issuer != by {
		c, there = t.Get(parcel, c.FromI, c.FromN)
	}
	return there
}

// put puts the next one of its Issuer where it belongs, and counts it.
func (t *Tree) put(c api.Cap) {
	i, _ := t.find(c.Parcel, c.Issuer, c.N)
	t.row = slices.Insert(t.row, i, c)
	i, there := t.count(c.Parcel, c.Issuer)
	if !there {
		t.issued = slices.Insert(t.issued, i, api.Issued{Parcel: c.Parcel, Tenant: c.Issuer})
	}
	t.issued[i].N++
}
