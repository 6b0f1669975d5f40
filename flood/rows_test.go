package flood

import (
	"slices"
	"testing"

	"hectare/api"
	"hectare/plain"
)

// five is a square of four by four, cut at its middle, and one triangle that stands apart.
func five() list {
	return list{
		tr(0, 0, 2, 2, 0, 4), tr(0, 0, 4, 0, 2, 2), tr(0, 4, 2, 2, 4, 4), tr(2, 2, 4, 0, 4, 4),
		tr(6, 0, 8, 0, 7, 1),
	}
}

// TestRows is of the five, by how many of them hang together with walls of each kind: west,
// south, north and east, and the one apart.
func TestRows(t *testing.T) {
	l := five()
	const w, s, n, e, far = 0, 1, 2, 3, 4
	type is [][]int
	rows := []struct {
		what string
		row  []api.Wall
		kind int
		want is
	}{
		{"no walls", nil, 1, is{{w, s, n, e}, {far}}},
		{"a wall through the square", []api.Wall{wl(0, 0, 2, 2, 1), wl(2, 2, 4, 4, 1)}, 1, is{{w, n}, {s, e}, {far}}},
		{"walls that are no borders", []api.Wall{wl(0, 0, 2, 2, 1), wl(2, 2, 4, 4, 1)}, 2, is{{w, s, n, e}, {far}}},
		{"a border through the square", []api.Wall{wl(0, 0, 2, 2, 2), wl(2, 2, 4, 4, 2)}, 1, is{{w, n}, {s, e}, {far}}},
		{"that, by borders", []api.Wall{wl(0, 0, 2, 2, 2), wl(2, 2, 4, 4, 2)}, 2, is{{w, n}, {s, e}, {far}}},
		{"half a wall, and half a border", []api.Wall{wl(0, 0, 2, 2, 1), wl(2, 2, 4, 4, 2)}, 1, is{{w, n}, {s, e}, {far}}},
		{"that, by borders", []api.Wall{wl(0, 0, 2, 2, 1), wl(2, 2, 4, 4, 2)}, 2, is{{w, s, n, e}, {far}}},
		{"a wall that ends within", []api.Wall{wl(0, 0, 2, 2, 1)}, 1, is{{w, s, n, e}, {far}}},
		{"walls around one", []api.Wall{wl(0, 0, 2, 2, 1), wl(0, 4, 2, 2, 2)}, 1, is{{w}, {s, n, e}, {far}}},
		{"all walls", []api.Wall{wl(0, 0, 2, 2, 1), wl(0, 4, 2, 2, 2), wl(2, 2, 4, 0, 2), wl(2, 2, 4, 4, 1)}, 1, is{{w}, {s}, {n}, {e}, {far}}},
		{"that, by borders", []api.Wall{wl(0, 0, 2, 2, 1), wl(0, 4, 2, 2, 2), wl(2, 2, 4, 0, 2), wl(2, 2, 4, 4, 1)}, 2, is{{w, s}, {n, e}, {far}}},
		{"a third kind, which none is", []api.Wall{wl(0, 0, 2, 2, 1), wl(2, 2, 4, 4, 2)}, 3, is{{w, s, n, e}, {far}}},
		{"kind 0, which all walls are above", []api.Wall{wl(0, 0, 2, 2, 1), wl(2, 2, 4, 4, 2)}, 0, is{{w, n}, {s, e}, {far}}},
		{"a kind below 0", []api.Wall{wl(0, 0, 2, 2, 1), wl(2, 2, 4, 4, 2)}, -9, is{{w, n}, {s, e}, {far}}},
		{"one wall over two edges, and so none of an edge", []api.Wall{wl(0, 0, 4, 4, 2)}, 1, is{{w, s, n, e}, {far}}},
		{"a wall across triangles", []api.Wall{wl(1, 0, 1, 4, 2)}, 1, is{{w, s, n, e}, {far}}},
		{"a wall from the square to the one apart", []api.Wall{wl(4, 0, 6, 0, 1)}, 1, is{{w, s, n, e}, {far}}},
		{"the frame", []api.Wall{wl(0, 0, 0, 4, 2), wl(0, 0, 4, 0, 2), wl(0, 4, 4, 4, 2), wl(4, 0, 4, 4, 2)}, 1, is{{w, s, n, e}, {far}}},
	}
	for _, r := range rows {
		m, set := made(t, l), fixed(t, r.row)
		var want [][]api.Tri
		for _, some := range r.want {
			var part []api.Tri
			for _, i := range some {
				part = append(part, l[i])
			}
			want = append(want, part)
		}
		if got := Parts(m, set, r.kind); !same(got, want) {
			t.Errorf("P13.1 %s: Parts(%d): %v, want %v", r.what, r.kind, got, want)
		}
		for _, part := range want {
			for _, u := range part {
				if got := From(m, set, r.kind, u); !slices.Equal(got, part) {
					t.Errorf("P13.1 %s: From(%d, %v): %v, want %v", r.what, r.kind, u, got, part)
				}
			}
		}
		hold(t, r.what, m, set, l, r.row)
	}
}

// TestTouch is that a corner in common is no way, nor is lying on one another, nor an edge
// that another one's is a part of.
func TestTouch(t *testing.T) {
	rows := map[string]list{
		"one corner":          {tr(0, 0, 2, 0, 2, 2), tr(2, 2, 4, 2, 4, 4)},
		"two over each other": {tr(0, 0, 4, 0, 4, 4), tr(1, 0, 5, 0, 3, 4)},
		"a part of an edge":   {tr(0, 0, 4, 0, 2, 2), tr(0, 0, 2, 0, 1, 1), tr(1, 1, 3, 1, 2, 2)},
		"half of another's":   {tr(0, 0, 4, 0, 4, 4), tr(0, 0, 2, 2, 0, 4)},
		"three on a way":      {tr(0, 0, 1, 0, 0, 1), tr(1, 1, 2, 1, 1, 2), tr(2, 0, 3, 0, 2, 1)},
	}
	for what, l := range rows {
		if got := Parts(made(t, l), nil, api.Inner); len(got) != len(l) {
			t.Errorf("P13.1 %s: %v", what, got)
		}
		hold(t, what, made(t, l), nil, l, nil)
	}
}

func TestCorners(t *testing.T) {
	type ps = []api.Point
	const far = plain.Far
	u, v := tr(0, 0, 4, 0, 4, 4), tr(0, 0, 4, 4, 0, 4)
	rows := []struct {
		what string
		l    list
		want ps
	}{
		{"nil", nil, nil},
		{"none", list{}, nil},
		{"one", list{u}, ps{pt(0, 0), pt(4, 0), pt(4, 4)}},
		{"one, whose last corner is not the greatest", list{v}, ps{pt(0, 0), pt(0, 4), pt(4, 4)}},
		{"one, twice", list{u, u}, ps{pt(0, 0), pt(4, 0), pt(4, 4)}},
		{"two at an edge", list{u, v}, ps{pt(0, 0), pt(0, 4), pt(4, 0), pt(4, 4)}},
		{"two, the other way", list{v, u}, ps{pt(0, 0), pt(0, 4), pt(4, 0), pt(4, 4)}},
		{"by X, then by Y", list{tr(1, 9, 2, 0, 2, 3), tr(1, 2, 2, 0, 1, 9)}, ps{pt(1, 2), pt(1, 9), pt(2, 0), pt(2, 3)}},
		{"the grid's ends", list{tr(0, far, far, 0, far, far), tr(0, 0, far, 0, 0, far)}, ps{pt(0, 0), pt(0, far), pt(far, 0), pt(far, far)}},
		{"two apart", list{tr(6, 0, 8, 0, 7, 1), tr(0, 0, 1, 0, 0, 1)}, ps{pt(0, 0), pt(0, 1), pt(1, 0), pt(6, 0), pt(7, 1), pt(8, 0)}},
		{"zero", list{{}}, ps{pt(0, 0)}},
		{"no triangles", list{tr(3, 3, 3, 3, -1, 2), tr(far+1, 0, 2, -5, 3, 3)}, ps{pt(-1, 2), pt(2, -5), pt(3, 3), pt(far+1, 0)}},
	}
	for _, r := range rows {
		given := slices.Clone(r.l)
		if got := Corners(r.l); !slices.Equal(got, r.want) {
			t.Errorf("P13.1 %s: Corners(%v): %v, want %v", r.what, r.l, got, r.want)
		}
		if !slices.Equal(r.l, given) {
			t.Errorf("P13.2 %s: Corners changes %v to %v", r.what, given, r.l)
		}
	}
	d := plain.Dice(113)
	for range 60 {
		l := d.Heap(plain.Cut(d.Points(5, 5, 4), nil), 7, 7, 10)
		if got, want := Corners(plain.Mix(&d, l)), l.Points(); !slices.Equal(got, want) {
			t.Errorf("P13.1 Corners(%v): %v, want %v", l, got, want)
		}
	}
}

// TestKept is that answers are new memory, each list of its own, that none of them is kept,
// and that what was handed in is not changed by it, nor its spare room.
func TestKept(t *testing.T) {
	l := five()
	row := []api.Wall{wl(0, 0, 2, 2, 1), wl(2, 2, 4, 4, 1)}
	m, s := made(t, l), fixed(t, row)
	want := parts(l, row, api.Inner)
	one, other := Parts(m, s, api.Inner), Parts(m, s, api.Inner)
	for i, part := range one {
		clear(part[:cap(part)])
		if !same(one[i+1:], want[i+1:]) {
			t.Errorf("P13.2 Parts: a list shares memory with %v", one[i+1:])
		}
	}
	clear(one[:cap(one)])
	if again := Parts(m, s, api.Inner); !same(other, want) || !same(again, want) {
		t.Errorf("P13.2 Parts: answers share memory: %v and %v, want %v", other, again, want)
	}
	mine, yours := From(m, s, api.Inner, l[0]), From(m, s, api.Inner, l[0])
	clear(mine[:cap(mine)])
	if again := From(m, s, api.Inner, l[0]); !slices.Equal(yours, want[0]) || !slices.Equal(again, want[0]) {
		t.Errorf("P13.2 From: answers share memory: %v and %v, want %v", yours, again, want[0])
	}
	hold(t, "when answers are changed", m, s, l, row)
	room := append(five(), five()...)
	was := slices.Clone(room)
	ps, qs := Corners(room[:2]), Corners(room[:2])
	clear(ps[:cap(ps)])
	if !slices.Equal(room, was) || !slices.Equal(qs, was[:2].Points()) || !slices.Equal(Corners(room[:2]), qs) {
		t.Errorf("P13.2 Corners: %v of %v, which was %v", qs, room, was)
	}
}
