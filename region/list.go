package region

import (
	"slices"

	"hectare/api"
)

// odd tells whether a region's numbers are none that one may have.
func odd(r api.Region) bool {
	return r.Parcel < 1 || r.Parcel > 255 || !isLabel(r.Label) ||
		r.Room < 3 || r.Room > api.MaxRoom || r.Owner < 0 || r.Owner > 255
}

func isLabel(n int) bool {
	return 1 <= n && n <= 65535
}

// seeded tells whether the Seeds are the first triangles of all parts, in order.
func seeded(l []api.Region, parts [][]api.Tri) bool {
	return slices.EqualFunc(l, parts, func(r api.Region, part []api.Tri) bool { return r.Seed == part[0] })
}

// named tells Have, if two have one name, or Full, if a parcel has too many.
func named(l []api.Region) api.Errno {
	there, count := map[[2]int]struct{}{}, map[int]int{}
	most := 0
	for _, r := range l {
		name := [2]int{r.Parcel, r.Label}
		if _, have := there[name]; have {
			return api.Have
		}
		there[name] = struct{}{}
		count[r.Parcel]++
		most = max(most, count[r.Parcel])
	}
	if most > api.MaxRegions {
		return api.Full
	}
	return api.OK
}

// bordered tells whether just those are of one parcel that are in one of the parts that borders
// make. Each of these has a region, so there are as many pairs of a part and a parcel as parts
// just if no part is of two parcels, and as many parcels just if no parcel is of two parts.
func bordered(l []api.Region, parts [][]api.Tri) bool {
	seeds, parcels := map[api.Tri]int{}, map[int]struct{}{}
	for _, r := range l {
		seeds[r.Seed], parcels[r.Parcel] = r.Parcel, struct{}{}
	}
	pairs := map[[2]int]struct{}{}
	for i, part := range parts {
		for _, x := range part {
			if parcel, is := seeds[x]; is {
				pairs[[2]int{i, parcel}] = struct{}{}
			}
		}
	}
	return len(pairs) == len(parts) && len(parcels) == len(parts)
}
