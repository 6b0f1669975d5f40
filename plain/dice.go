package plain

import (
	"slices"

	"hectare/api"
)

// Dice is numbers that are always the same ones.
type Dice uint64

// Below is the next one.
func (d *Dice) Below(n int) int {
	*d = *d*6364136223846793005 + 1442695040888963407
	return int(uint64(*d) >> 33 % uint64(n))
}

// Point is the next one of a square.
func (d *Dice) Point(w, h int) api.Point {
	return Pt(d.Below(w+1), d.Below(h+1))
}

// Points is some points of a square, its corners among them, rising.
func (d *Dice) Points(w, h, n int) []api.Point {
	l := []api.Point{Pt(0, 0), Pt(0, h), Pt(w, 0), Pt(w, h)}
	for range n {
		l = append(l, d.Point(w, h))
	}
	slices.SortFunc(l, Order)
	return slices.Compact(l)
}

// Heap is triangles of a square that may be in one mesh, wherever they come to lie beside
// those of a list.
func (d *Dice) Heap(l List, w, h, tries int) List {
	l = slices.Clone(l)
	for range tries {
		t, ok := Told(d.Point(w, h), d.Point(w, h), d.Point(w, h))
		if ok && l.takes(t) {
			l = append(l, t)
		}
	}
	return l
}

// takes tells whether no edge of a triangle is there in its direction.
func (l List) takes(t api.Tri) bool {
	for _, v := range Sides(t) {
		if l.left(v[0], v[1]) >= 0 {
			return false
		}
	}
	return true
}

// Walls is walls of a square that may be beside each other, besides those of a row.
func (d *Dice) Walls(row []api.Wall, w, h, tries int) []api.Wall {
	row = slices.Clone(row)
	for range tries {
		a, b := d.Point(w, h), d.Point(w, h)
		if e := Between(a, b); a != b && Clash(row, a, b) == api.OK {
			row = append(row, api.Wall{A: e.A, B: e.B, Kind: api.Inner + d.Below(2)})
		}
	}
	slices.SortFunc(row, Rising)
	return row
}

// Stir is triangles after so many tries to cut two of them the other way, where no wall
// is between them.
func (d *Dice) Stir(l List, row []api.Wall, tries int) List {
	l = slices.Clone(l)
	for range tries {
		i, v := d.Below(len(l)), d.Below(3)
		e := Sides(l[i])[v]
		wall := slices.ContainsFunc(row, func(v api.Wall) bool { return Between(v.A, v.B) == Between(e[0], e[1]) })
		if j := l.left(e[1], e[0]); !wall && j >= 0 {
			l.turn(i, j, e[0], e[1])
		}
	}
	return l
}

// left is where the triangle is that has an edge in one direction; -1 of none.
func (l List) left(a, b api.Point) int {
	return slices.IndexFunc(l, func(t api.Tri) bool {
		sides := Sides(t)
		return slices.Contains(sides[:], [2]api.Point{a, b})
	})
}

// turn cuts two triangles the other way, if they are convex.
func (l List) turn(i, j int, a, b api.Point) {
	other := func(t api.Tri) api.Point { return Without(Without([]api.Point{t.A, t.B, t.C}, a), b)[0] }
	c, d := other(l[i]), other(l[j])
	if Apart(a, b, c, d) && Apart(c, d, a, b) {
		l[i], _ = Told(c, a, d)
		l[j], _ = Told(d, b, c)
	}
}

// Mix is some things in another order.
func Mix[T any](d *Dice, l []T) []T {
	l = slices.Clone(l)
	for i := range l {
		j := i + d.Below(len(l)-i)
		l[i], l[j] = l[j], l[i]
	}
	return l
}
