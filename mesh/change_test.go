package mesh

import (
	"slices"
	"strconv"
	"testing"

	"hectare/api"
)

// replaced is what a list is after a Replace, and what that answers.
func (l lists) replaced(out, in []api.Tri) (lists, api.Errno) {
	rest := slices.Clone(l)
	for _, t := range out {
		i := slices.Index(rest, t)
		if i < 0 {
			return l, api.None
		}
		rest = slices.Delete(rest, i, i+1)
	}
	rest = append(rest, in...)
	if !rest.may() {
		return l, api.Malformed
	}
	return rest, api.OK
}

// third is the corner of t that is neither a nor b.
func third(t api.Tri, a, b api.Point) api.Point {
	for _, p := range []api.Point{t.A, t.B, t.C} {
		if p != a && p != b {
			return p
		}
	}
	return api.Point{}
}

// told is the triangle of three points that are not on one line.
func told(a, b, c api.Point) api.Tri {
	for _, t := range all([]api.Point{a, b, c}) {
		return t
	}
	return api.Tri{}
}

// convex tells of four points, whether the way from a to b and that from c to d
// cross, all four beyond each other's lines: just then the quadrilateral of both is
// convex, no two of its edges on one line.
func convex(a, b, c, d api.Point) bool {
	parts := func(p, q, r, s api.Point) bool {
		u, v := twice(p, q, r), twice(p, q, s)
		return u > 0 && v < 0 || u < 0 && v > 0
	}
	return parts(a, b, c, d) && parts(c, d, a, b)
}

// flipped is what a list is after a Flip, and what that answers.
func (l lists) flipped(a, b api.Point) (lists, api.Errno) {
	s, one := l.left(a, b)
	t, two := l.left(b, a)
	if !one || !two {
		return l, api.None
	}
	c, d := third(s, a, b), third(t, a, b)
	_, there := l.left(c, d)
	_, back := l.left(d, c)
	if !convex(a, b, c, d) || there || back {
		return l, api.Malformed
	}
	return l.replaced([]api.Tri{s, t}, []api.Tri{told(a, c, d), told(b, c, d)})
}

func TestReplaceRows(t *testing.T) {
	a, b := tr(0, 0, 4, 0, 4, 4), tr(0, 0, 4, 4, 0, 4)
	c, d := tr(0, 0, 4, 0, 0, 4), tr(0, 4, 4, 0, 4, 4)
	e, turned := tr(4, 0, 8, 0, 4, 4), tr(4, 0, 4, 4, 0, 0)
	type ts = []api.Tri
	rows := []struct {
		what    string
		out, in ts
		want    api.Errno
		then    ts
	}{
		{"nothing by nothing", nil, nil, api.OK, ts{a, b}},
		{"nothing by empty lists", ts{}, ts{}, api.OK, ts{a, b}},
		{"both by the other way to cut them", ts{a, b}, ts{c, d}, api.OK, ts{c, d}},
		{"in whatever order", ts{b, a}, ts{d, c}, api.OK, ts{c, d}},
		{"both by themselves", ts{a, b}, ts{b, a}, api.OK, ts{a, b}},
		{"one by itself", ts{a}, ts{a}, api.OK, ts{a, b}},
		{"one by itself and another one", ts{a}, ts{e, a}, api.OK, ts{a, b, e}},
		{"one by another one", ts{b}, ts{e}, api.OK, ts{a, e}},
		{"one by one on the same edge", ts{a}, ts{tr(0, 0, 9, 0, 4, 4)}, api.OK, ts{b, tr(0, 0, 9, 0, 4, 4)}},
		{"nothing by one more", nil, ts{e}, api.OK, ts{a, b, e}},
		{"one by nothing", ts{a}, nil, api.OK, ts{b}},
		{"all by nothing", ts{b, a}, nil, api.OK, nil},
		{"one that is not there", ts{c}, nil, api.None, nil},
		{"one that is not there, last", ts{a, b, c}, ts{c}, api.None, nil},
		{"one twice", ts{a, a}, nil, api.None, nil},
		{"one twice, apart", ts{a, b, a}, ts{c, d}, api.None, nil},
		{"one that is told from another corner", ts{turned}, ts{a}, api.None, nil},
		{"one that only comes", ts{a, e}, ts{a, e}, api.None, nil},
		{"one not there, by one not Valid", ts{c}, ts{turned}, api.None, nil},
		{"one twice, by one twice", ts{a, a}, ts{a, a}, api.None, nil},
		{"one not Valid, which so is not there", ts{a, turned}, ts{turned}, api.None, nil},
		{"one by one not Valid", ts{a}, ts{turned}, api.Malformed, nil},
		{"nothing by one that is there", nil, ts{a}, api.Malformed, nil},
		{"one by the other one", ts{a}, ts{b}, api.Malformed, nil},
		{"one by itself twice", ts{a}, ts{a, a}, api.Malformed, nil},
		{"both by one twice", ts{a, b}, ts{c, c}, api.Malformed, nil},
		{"both by two on one edge", ts{a, b}, ts{c, a}, api.Malformed, nil},
		{"one by one on another one's edge", ts{a}, ts{e, c}, api.Malformed, nil},
	}
	for _, r := range rows {
		m := made(t, a, b)
		if got := m.Replace(r.out, r.in); got != r.want {
			t.Errorf("P5.2 Replace of %s: %d, want %d", r.what, got, r.want)
		}
		if r.want != api.OK {
			r.then = ts{a, b}
		}
		same(t, "P5.2 "+r.what, m, r.then, append(square(5), pt(8, 0), pt(9, 0)), ts{a, b, c, d, e, turned})
	}
	for _, u := range bad() {
		m := made(t, a, b)
		for _, in := range []ts{{u}, {u, e}, {e, u}, {a, e, u}} {
			if got := m.Replace(ts{a}, in); got != api.Malformed {
				t.Errorf("P5.2 Replace by %v: %d", in, got)
			}
			if got := m.Replace(in, ts{a, e}); got != api.None {
				t.Errorf("P5.2 Replace of %v: %d", in, got)
			}
		}
		same(t, "P5.2 not Valid", m, ts{a, b}, square(9), ts{a, b, e, u})
	}
}

// dice is numbers that are always the same ones.
type dice uint64

func (d *dice) below(n int) int {
	*d = *d*6364136223846793005 + 1442695040888963407
	return int(uint64(*d) >> 33 % uint64(n))
}

func (d *dice) some(l []api.Tri, n int) []api.Tri {
	var s []api.Tri
	for range d.below(n + 1) {
		if len(l) > 0 {
			s = append(s, l[d.below(len(l))])
		}
	}
	return s
}

// TestChanges goes a long way with one Mesh, each step held against a list.
func TestChanges(t *testing.T) {
	near := square(4)
	some := all(near)
	var l lists
	m := made(t)
	d := dice(5)
	seen := map[string]int{}
	for step := range 6000 {
		what := "Replace"
		var want, got api.Errno
		if d.below(2) == 0 {
			out, in := d.some(l, 3), d.some(some, 3)
			if d.below(4) == 0 {
				out = append(out, d.some(some, 1)...)
			}
			if d.below(4) == 0 {
				in = append(in, d.some(out, 2)...)
			}
			l, want = l.replaced(out, in)
			got = m.Replace(out, in)
		} else {
			what = "Flip"
			a, b := near[d.below(len(near))], near[d.below(len(near))]
			if len(l) > 0 && d.below(3) > 0 {
				w := ways(l[d.below(len(l))])[d.below(3)]
				a, b = w[0], w[1]
			}
			l, want = l.flipped(a, b)
			got = m.Flip(a, b)
		}
		if got != want {
			t.Fatalf("P5.2 step %d, %s: %d, want %d", step, what, got, want)
		}
		seen[what+strconv.Itoa(int(got))]++
		if step%10 == 0 {
			same(t, "P5.2 on the way", m, l, near, some)
		}
		if !slices.Equal(m.Tris(), l.sorted()) {
			t.Fatalf("P5.2 step %d, %s: %v, want %v", step, what, m.Tris(), l.sorted())
		}
	}
	for _, k := range []string{"Replace0", "Replace2", "Replace16", "Flip0", "Flip2", "Flip16"} {
		if seen[k] < 20 {
			t.Errorf("the way has %d of %s", seen[k], k)
		}
	}
}

func TestFlipRows(t *testing.T) {
	type ts = []api.Tri
	a, b := tr(0, 0, 4, 0, 4, 4), tr(0, 0, 4, 4, 0, 4)
	rows := []struct {
		what string
		l    ts
		p, q api.Point
		want api.Errno
		then ts
	}{
		{"a square", ts{a, b}, pt(0, 0), pt(4, 4), api.OK, ts{tr(0, 0, 4, 0, 0, 4), tr(0, 4, 4, 0, 4, 4)}},
		{"an edge with a triangle on one side", ts{a, b}, pt(0, 0), pt(4, 0), api.None, nil},
		{"one with none on either side", ts{a, b}, pt(4, 0), pt(0, 4), api.None, nil},
		{"a point's way to itself", ts{a, b}, pt(0, 0), pt(0, 0), api.None, nil},
		{"points beyond the grid", ts{a, b}, pt(-1, 0), pt(far+1, 0), api.None, nil},
		{"no triangles", nil, pt(0, 0), pt(4, 4), api.None, nil},
		{"one triangle", ts{a}, pt(0, 0), pt(4, 4), api.None, nil},
		{"two edges on one line, at an end", ts{tr(0, 0, 4, 0, 2, 2), tr(0, 0, 2, 2, 0, 4)}, pt(0, 0), pt(2, 2), api.Malformed, nil},
		{"two edges on one line, at the other end", ts{tr(0, 0, 4, 0, 2, 2), tr(2, 2, 4, 0, 4, 4)}, pt(2, 2), pt(4, 0), api.Malformed, nil},
		{"not convex at an end", ts{tr(0, 0, 4, 0, 1, 1), tr(0, 0, 1, 1, 0, 4)}, pt(0, 0), pt(1, 1), api.Malformed, nil},
		{"not convex at the other end", ts{tr(3, 3, 4, 0, 4, 4), tr(0, 4, 3, 3, 4, 4)}, pt(3, 3), pt(4, 4), api.Malformed, nil},
		{"a third one with the new edge", ts{a, b, tr(0, 4, 4, 0, 9, 9)}, pt(0, 0), pt(4, 4), api.Malformed, nil},
		{"a third one with the new edge, the other way", ts{a, b, tr(0, 4, 1, 1, 4, 0)}, pt(0, 0), pt(4, 4), api.Malformed, nil},
		{"the grid's square", ts{tr(0, 0, far, 0, far, far), tr(0, 0, far, far, 0, far)}, pt(0, 0), pt(far, far), api.OK,
			ts{tr(0, 0, far, 0, 0, far), tr(0, far, far, 0, far, far)}},
		{"just convex", ts{tr(0, 0, far, far-1, far, far), tr(0, 0, far, far, far-1, far)}, pt(0, 0), pt(far, far), api.OK,
			ts{tr(0, 0, far, far-1, far-1, far), tr(far-1, far, far, far-1, far, far)}},
		{"just convex, far away", ts{tr(0, 0, far-1, far-2, far, far), tr(0, 0, far, far, far-1, far)}, pt(0, 0), pt(far, far), api.OK,
			ts{tr(0, 0, far-1, far-2, far-1, far), tr(far-1, far-2, far, far, far-1, far)}},
		{"just on one line", ts{tr(0, 0, far-1, far-1, far-1, far), tr(far-1, far-1, far, far, far-1, far)}, pt(far-1, far-1), pt(far-1, far), api.Malformed, nil},
	}
	for _, r := range rows {
		for _, ends := range [][2]api.Point{{r.p, r.q}, {r.q, r.p}} {
			m, e := New(r.l)
			if e != api.OK {
				t.Fatalf("P5.1 %s: New(%v): %d", r.what, r.l, e)
			}
			then := r.then
			if r.want != api.OK {
				then = r.l
			}
			if got := m.Flip(ends[0], ends[1]); got != r.want {
				t.Errorf("P5.2 Flip of %s: %d, want %d", r.what, got, r.want)
			}
			same(t, "P5.2 "+r.what, m, then, append(square(5), pt(9, 9), pt(far, far), pt(far, 0), pt(0, far)), append(r.l, r.then...))
		}
	}
}

// TestFlipAll is of all pairs of a small grid's triangles that have an edge in
// common, named from either end, and back.
func TestFlipAll(t *testing.T) {
	near := square(4)
	some := all(near)
	for _, u := range some {
		for _, w := range ways(u) {
			for _, d := range near {
				if twice(w[1], w[0], d) <= 0 {
					continue
				}
				v := told(w[0], w[1], d)
				l, want := lists{u, v}.flipped(w[0], w[1])
				m := made(t, u, v)
				if got := m.Flip(w[0], w[1]); got != want {
					t.Fatalf("P5.2 Flip(%v, %v) of %v and %v: %d, want %d", w[0], w[1], u, v, got, want)
				}
				if got := m.Tris(); !slices.Equal(got, l.sorted()) {
					t.Fatalf("P5.2 Flip(%v, %v) of %v and %v: %v, want %v", w[0], w[1], u, v, got, l)
				}
				if want != api.OK {
					continue
				}
				if got := m.Flip(d, w[2]); got != api.OK || !slices.Equal(m.Tris(), lists{u, v}.sorted()) {
					t.Fatalf("P5.2 Flip back of %v and %v: %d, %v", u, v, got, m.Tris())
				}
			}
		}
	}
}

// spare is the same list with room left behind it, which has something in it.
func spare(l []api.Tri) []api.Tri {
	s := append(slices.Clone(l), tr(7, 7, 8, 7, 8, 8), tr(1, 2, 3, 4, 5, 6))
	return s[:len(l)]
}

// TestKept is that what is handed in is neither changed nor kept, and that what is
// answered is new memory.
func TestKept(t *testing.T) {
	a, b := tr(0, 0, 4, 0, 4, 4), tr(0, 0, 4, 4, 0, 4)
	c, d := tr(0, 0, 4, 0, 0, 4), tr(0, 4, 4, 0, 4, 4)
	near, some := square(5), []api.Tri{a, b, c, d}
	given := spare([]api.Tri{b, a})
	m := made(t, given...)
	m, _ = New(given)
	out, in := spare([]api.Tri{b, a}), spare([]api.Tri{d, c})
	wrong := spare([]api.Tri{d, c, d})
	if e := m.Replace(out, wrong); e != api.Malformed {
		t.Errorf("P5.2 Replace: %d", e)
	}
	if e := m.Replace(wrong, in); e != api.None {
		t.Errorf("P5.2 Replace: %d", e)
	}
	if e := m.Replace(out, in); e != api.OK {
		t.Errorf("P5.2 Replace: %d", e)
	}
	for i, l := range [][2][]api.Tri{{given, spare([]api.Tri{b, a})}, {out, spare([]api.Tri{b, a})}, {in, spare([]api.Tri{d, c})}, {wrong, spare([]api.Tri{d, c, d})}} {
		if !slices.Equal(l[0][:cap(l[1])], l[1][:cap(l[1])]) {
			t.Errorf("P5.3 what was handed in is changed: %d: %v", i, l[0][:cap(l[1])])
		}
	}
	for _, l := range [][]api.Tri{given, out, in, wrong} {
		clear(l[:cap(l)])
	}
	same(t, "P5.3 after what was handed in is changed", m, []api.Tri{c, d}, near, some)
	ts, us, ps, qs := m.Tris(), m.Tris(), m.Points(), m.Points()
	clear(ts[:cap(ts)])
	clear(ps[:cap(ps)])
	if !slices.Equal(us, []api.Tri{c, d}) || !slices.Equal(qs, []api.Point{pt(0, 0), pt(0, 4), pt(4, 0), pt(4, 4)}) {
		t.Errorf("P5.3 answers share memory: %v %v", us, qs)
	}
	same(t, "P5.3 after what was answered is changed", m, []api.Tri{c, d}, near, some)
}

// TestApart is that two have nothing in common.
func TestApart(t *testing.T) {
	a, b := tr(0, 0, 4, 0, 4, 4), tr(0, 0, 4, 4, 0, 4)
	given := []api.Tri{a, b}
	m, _ := New(given)
	n, _ := New(given)
	if e := m.Flip(pt(0, 0), pt(4, 4)); e != api.OK {
		t.Errorf("P5.2 Flip: %d", e)
	}
	same(t, "P5.3 the other one", n, given, square(5), given)
}

// TestOnce is that whatever is done, no edge is there twice in one direction: each
// triangle that is there is the one left of its edges.
func TestOnce(t *testing.T) {
	m := made(t, strip(4)...)
	some := all(square(5))
	d := dice(9)
	for range 3000 {
		l := m.Tris()
		m.Replace(d.some(l, 1), d.some(some, 2))
		if len(l) == 0 {
			continue
		}
		w := ways(l[d.below(len(l))])[d.below(3)]
		m.Flip(w[0], w[1])
		n := 0
		for _, u := range m.Tris() {
			for i, v := range ways(u) {
				n++
				if s, ok := m.Left(v[0], v[1]); !ok || s != u {
					t.Fatalf("P5.3 edge %d of %v is that of %v", i, u, s)
				}
			}
		}
		if n != 3*m.Len() {
			t.Fatalf("P5.3 %d edges of %d triangles", n, m.Len())
		}
	}
}
