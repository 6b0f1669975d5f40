package caps

import (
	"slices"

	"hectare/api"
	"hectare/rights"
)

// The greatest numbers of parcels, tenants and labels.
const (
	maxParcel = 255
	maxTenant = 255
	maxLabel  = 65535
)

// parcelsMayBe tells whether some parcels may be.
func parcelsMayBe(p []api.Parcel) bool {
	return rises(p, byID) && every(p, func(v api.Parcel) bool {
		return v.ID > 0 && v.ID <= maxParcel && upTo(v.Tokens, api.MaxTokens)
	})
}

// issuedMayBe tells whether the counts may be, in parcels that may be. Where there is no parcel,
// there are no tokens.
func (t *Tree) issuedMayBe() bool {
	return rises(t.issued, byTenant) && every(t.issued, func(v api.Issued) bool {
		return upTo(v.Tenant, maxTenant) && v.N > 0 && v.N <= t.tokens(v.Parcel)
	})
}

// rowMayBe tells whether the capabilities may be, with counts that may be.
func (t *Tree) rowMayBe() bool {
	return rises(t.row, Cmp) && every(t.row, t.mayBe) && t.rooted()
}

// mayBe tells whether one may be, as far as it and its parent tell. Its parcel is there, and its
// Issuer may be, where a count of both is above its number.
func (t *Tree) mayBe(c api.Cap) bool {
	return c.N >= 0 && c.N < t.given(c.Parcel, c.Issuer) && bounded(c) && (first(c) || t.comes(c))
}

// bounded tells whether what a capability gives, and to whom, may be.
func bounded(c api.Cap) bool {
	return upTo(c.Holder, maxTenant) && upTo(c.Label, maxLabel) && rights.Valid(c.Rights) && upTo(c.Until, api.MaxTick-1)
}

// first tells whether one has no parent.
func first(c api.Cap) bool { return c.FromI == -1 && c.FromN == 0 }

// comes tells whether one has a parent that could issue it.
func (t *Tree) comes(c api.Cap) bool {
	parent, there := t.Get(c.Parcel, c.FromI, c.FromN)
	return there && parent.Holder == c.Issuer && rights.Narrower(c, parent)
}

// rooted tells whether nobody is below itself: then each is below one that has no parent, or is
// such a one. It is below no two of them, as it has one parent at most.
func (t *Tree) rooted() bool {
	n := 0
	for _, c := range t.row {
		if first(c) {
			n += len(t.below(c))
		}
	}
	return n == len(t.row)
}

// upTo tells whether a number is 0 to another one.
func upTo(n, most int) bool { return 0 <= n && n <= most }

// rises tells whether each of some is above the one ahead of it.
func rises[T any](l []T, order func(a, b T) int) bool {
	for i := range l {
		if i > 0 && order(l[i-1], l[i]) >= 0 {
			return false
		}
	}
	return true
}

// every tells whether something holds of all.
func every[T any](l []T, holds func(T) bool) bool {
	return !slices.ContainsFunc(l, func(v T) bool { return !holds(v) })
}
