package walk

import (
	"fmt"
	"math"
	"slices"
	"testing"

	"ringroad/api"
	"ringroad/graph"
)

// noArcs are numbers at which no arc can lie, though some look like a place by their last bits.
var noArcs = []int{
	math.MinInt, math.MinInt + 1, math.MinInt + 5, math.MinInt32, -1 << 32, -256, -128, -64, -63, -2, -1,
	64, 65, 127, 128, 129, 255, 256, math.MaxInt32, 1 << 32, 1<<32 + 5, math.MaxInt - 63, math.MaxInt - 1, math.MaxInt,
}

// noVertices are numbers of no vertex of n.
func noVertices(n int) []int {
	return []int{
		math.MinInt, math.MinInt + 1, math.MinInt32, -1 << 32, -256, -64, -n, -2, -1,
		n, n + 1, n + 24, n + 64, n + 256, math.MaxInt32, 1 << 32, math.MaxInt - 1, math.MaxInt,
	}
}

// roads are arcs by their numbers.
type roads map[int]api.Arc

// open, closed: an arc.
func open(tail, head, weight int) api.Arc {
	return api.Arc{Tail: tail, Head: head, Weight: weight}
}

func closed(tail, head, weight int) api.Arc {
	return api.Arc{Tail: tail, Head: head, Weight: weight, Closed: true}
}

// made: a graph of n vertices with these arcs, all of which may be.
func made(t *testing.T, n int, r roads) *graph.Graph {
	t.Helper()
	g, code := graph.New(n, 64)
	if g == nil || code != api.OK {
		t.Fatalf("P8.1: New(%d, 64): %v, %d", n, g, code)
	}
	for id, a := range r {
		if code := g.Insert(id, a); code != api.OK {
			t.Fatalf("P8.1: Insert(%d, %v): %d", id, a, code)
		}
	}
	return g
}

// wantVisits: the vertices of a walk, and what is wrong, as the chapter tells it, by a list that is cut off: the tests' own form.
func (r roads) wantVisits(n, from int, ids []int) ([]int, api.Code) {
	if from < 0 || from >= n {
		return nil, api.Arg
	}
	if len(ids) == 0 {
		return []int{from}, api.OK
	}
	a, there := r[ids[0]]
	if !there {
		return nil, api.NotFound
	}
	if a.Closed {
		return nil, api.State
	}
	if a.Tail != from {
		return nil, api.Malformed
	}
	rest, code := r.wantVisits(n, a.Head, ids[1:])
	if code != api.OK {
		return nil, code
	}
	return append([]int{from}, rest...), api.OK
}

// wantCheck: what the chapter says of a walk from one vertex to another one.
func (r roads) wantCheck(n, from, to int, ids []int) api.Code {
	if from < 0 || from >= n || to < 0 || to >= n {
		return api.Arg
	}
	visits, code := r.wantVisits(n, from, ids)
	if code == api.OK && visits[len(visits)-1] != to {
		return api.Malformed
	}
	return code
}

// wantSum: weights, added in numbers that hold them all: what is too far for an int is so at once.
func (r roads) wantSum(ids []int) int {
	sum := uint64(0)
	for _, id := range ids {
		a, there := r[id]
		if !there {
			return 1<<62 + 2
		}
		sum = min(sum+uint64(a.Weight), 1<<62+1)
	}
	return int(sum)
}

// wantSimple: a walk whose vertices differ, two by two.
func (r roads) wantSimple(n, from int, ids []int) bool {
	visits, code := r.wantVisits(n, from, ids)
	if code != api.OK {
		return false
	}
	for i, v := range visits {
		for _, other := range visits[i+1:] {
			if v == other {
				return false
			}
		}
	}
	return true
}

// same: do all four calls answer what the tests' own forms do, from these vertices and to them?
func same(t *testing.T, g *graph.Graph, r roads, n int, ends, ids []int) {
	t.Helper()
	if got, want := Sum(g, ids), r.wantSum(ids); got != want {
		t.Fatalf("P9.2: Sum(%v): %d, want %d", ids, got, want)
	}
	for _, from := range ends {
		got, code := Visits(g, from, ids)
		want, wantCode := r.wantVisits(n, from, ids)
		if !slices.Equal(got, want) || code != wantCode {
			t.Fatalf("P9.3: Visits(%d, %v): %v, %d, want %v, %d", from, ids, got, code, want, wantCode)
		}
		if got, want := Simple(g, from, ids), r.wantSimple(n, from, ids); got != want {
			t.Fatalf("P9.3: Simple(%d, %v): %v, want %v", from, ids, got, want)
		}
		for _, to := range ends {
			if got, want := Check(g, from, to, ids), r.wantCheck(n, from, to, ids); got != want {
				t.Fatalf("P9.1: Check(%d, %d, %v): %d, want %d", from, to, ids, got, want)
			}
		}
	}
}

// dice are numbers that look like chance and are the same each time.
type dice uint64

func (d *dice) next() uint64 {
	*d = *d*6364136223846793005 + 1442695040888963407
	return uint64(*d>>32) | uint64(*d<<32)
}

func (d *dice) below(n int) int { return int(d.next() % uint64(n)) }

func TestExample(t *testing.T) {
	g := made(t, 2, roads{4: open(0, 1, 3), 7: open(1, 0, 6)})
	ids := []int{4, 7}
	if code := Check(g, 0, 0, ids); code != api.OK {
		t.Errorf("P9.1: Check(0, 0, 4 7): %d", code)
	}
	if Simple(g, 0, ids) {
		t.Error("P9.3: Simple(0, 4 7)")
	}
	if l, code := Visits(g, 0, ids); !slices.Equal(l, []int{0, 1, 0}) || code != api.OK {
		t.Errorf("P9.3: Visits(0, 4 7): %v, %d", l, code)
	}
	if sum := Sum(g, ids); sum != 9 {
		t.Errorf("P9.2: Sum(4 7): %d", sum)
	}
}

// town is a graph of 5 vertices with arcs of all kinds, at the first place and at the last one, too.
func town() roads {
	return roads{
		0: open(0, 1, 2), 1: open(0, 1, 2), 2: open(1, 2, 5), 3: open(2, 0, 1), 10: open(2, 4, 7), 11: open(4, 0, 9),
		20: open(1, 1, 4), 21: open(0, 0, 6), 30: closed(0, 1, 3), 31: closed(2, 3, 8), 32: closed(1, 1, 1), 63: open(4, 3, 11),
	}
}

// Walks, with where they end, what they come to, and whether they are simple.
func TestWalks(t *testing.T) {
	g := made(t, 5, town())
	for _, c := range []struct {
		from   int
		ids    []int
		visits []int
		sum    int
		simple bool
	}{
		{0, []int{0}, []int{0, 1}, 2, true},
		{0, []int{1}, []int{0, 1}, 2, true},
		{4, []int{63}, []int{4, 3}, 11, true},
		{0, []int{0, 2}, []int{0, 1, 2}, 7, true},
		{0, []int{1, 2}, []int{0, 1, 2}, 7, true},
		{0, []int{0, 2, 10, 63}, []int{0, 1, 2, 4, 3}, 25, true},
		{2, []int{10, 11, 1}, []int{2, 4, 0, 1}, 18, true},
		{4, []int{11, 0, 2, 10}, []int{4, 0, 1, 2, 4}, 23, false},
		{1, []int{20}, []int{1, 1}, 4, false},
		{0, []int{21}, []int{0, 0}, 6, false},
		{1, []int{20, 20, 20}, []int{1, 1, 1, 1}, 12, false},
		{0, []int{0, 20, 2}, []int{0, 1, 1, 2}, 11, false},
		{0, []int{0, 2, 3}, []int{0, 1, 2, 0}, 8, false},
		{0, []int{0, 2, 3, 1}, []int{0, 1, 2, 0, 1}, 10, false},
		{0, []int{0, 2, 3, 0}, []int{0, 1, 2, 0, 1}, 10, false},
		{2, []int{3, 0, 2, 10}, []int{2, 0, 1, 2, 4}, 15, false},
		{0, []int{1, 2, 3, 1, 2, 10, 63}, []int{0, 1, 2, 0, 1, 2, 4, 3}, 33, false},
	} {
		end := c.visits[len(c.visits)-1]
		for to := range 5 {
			want := api.Malformed
			if to == end {
				want = api.OK
			}
			if code := Check(g, c.from, to, c.ids); code != want {
				t.Errorf("P9.1: Check(%d, %d, %v): %d, want %d", c.from, to, c.ids, code, want)
			}
		}
		if sum := Sum(g, c.ids); sum != c.sum {
			t.Errorf("P9.2: Sum(%v): %d, want %d", c.ids, sum, c.sum)
		}
		if l, code := Visits(g, c.from, c.ids); !slices.Equal(l, c.visits) || code != api.OK {
			t.Errorf("P9.3: Visits(%d, %v): %v, %d, want %v", c.from, c.ids, l, code, c.visits)
		}
		if simple := Simple(g, c.from, c.ids); simple != c.simple {
			t.Errorf("P9.3: Simple(%d, %v): %v", c.from, c.ids, simple)
		}
	}
}

// Lists that are no walks, with the first of the codes of the first arc that is wrong.
func TestNoWalks(t *testing.T) {
	g := made(t, 5, town())
	for _, c := range []struct {
		from int
		ids  []int
		want api.Code
	}{
		{0, []int{5}, api.NotFound},
		{0, []int{62}, api.NotFound},
		{0, []int{0, 5}, api.NotFound},
		{0, []int{0, 2, -1}, api.NotFound},
		{0, []int{0, 2, 64}, api.NotFound},
		{0, []int{30}, api.State},
		{0, []int{0, 2, 31}, api.State},
		{0, []int{0, 32, 2}, api.State},
		{0, []int{2}, api.Malformed},
		{4, []int{0}, api.Malformed},
		{0, []int{0, 0}, api.Malformed},
		{0, []int{0, 1}, api.Malformed},
		{0, []int{0, 63}, api.Malformed},
		{0, []int{0, 2, 11}, api.Malformed},
		{0, []int{0, 21, 20}, api.Malformed},
		// A closed arc that begins elsewhere is closed first.
		{4, []int{30}, api.State},
		{0, []int{0, 31}, api.State},
		// The first arc that is wrong tells, whatever is wrong with those behind it.
		{0, []int{5, 30}, api.NotFound},
		{0, []int{30, 5}, api.State},
		{0, []int{2, 5}, api.Malformed},
		{0, []int{2, 30}, api.Malformed},
		{0, []int{5, 2}, api.NotFound},
		{0, []int{30, 2}, api.State},
		{0, []int{0, 0, 5}, api.Malformed},
		{0, []int{0, 32, -1, 63}, api.State},
		{0, []int{0, 64, 32, 63}, api.NotFound},
		// An arc of no number would lead to vertex 0, from where arc 0 goes on.
		{0, []int{5, 0}, api.NotFound},
		// A wrong arc, behind which the walk would be where the next one begins.
		{0, []int{2, 10}, api.Malformed},
		{0, []int{30, 20}, api.State},
	} {
		for to := range 5 {
			if code := Check(g, c.from, to, c.ids); code != c.want {
				t.Errorf("P9.1: Check(%d, %d, %v): %d, want %d", c.from, to, c.ids, code, c.want)
			}
		}
		if l, code := Visits(g, c.from, c.ids); len(l) != 0 || code != c.want {
			t.Errorf("P9.3: Visits(%d, %v): %v, %d, want %d", c.from, c.ids, l, code, c.want)
		}
		if Simple(g, c.from, c.ids) {
			t.Errorf("P9.3: Simple(%d, %v)", c.from, c.ids)
		}
	}
}

// The empty list is a walk from each vertex to itself, and to no other one.
func TestEmpty(t *testing.T) {
	for n := 1; n <= 24; n++ {
		for _, g := range []*graph.Graph{made(t, n, nil), made(t, n, roads{0: open(0, n-1, 3), 63: open(n-1, 0, 4)})} {
			for _, ids := range [][]int{nil, {}, make([]int, 0, 3)} {
				if sum := Sum(g, ids); sum != 0 {
					t.Fatalf("P9.2: n %d: Sum of none: %d", n, sum)
				}
				for from := range n {
					for to := range n {
						want := api.Malformed
						if from == to {
							want = api.OK
						}
						if code := Check(g, from, to, ids); code != want {
							t.Fatalf("P9.1: n %d: Check(%d, %d, none): %d, want %d", n, from, to, code, want)
						}
					}
					if l, code := Visits(g, from, ids); !slices.Equal(l, []int{from}) || code != api.OK {
						t.Fatalf("P9.3: n %d: Visits(%d, none): %v, %d", n, from, l, code)
					}
					if !Simple(g, from, ids) {
						t.Fatalf("P9.3: n %d: Simple(%d, none): false", n, from)
					}
				}
			}
		}
	}
}

// A beginning or an end that is no vertex is told ahead of all that is wrong with the list.
func TestNoVertex(t *testing.T) {
	for _, n := range []int{1, 2, 5, 24} {
		last := n - 1
		g := made(t, n, roads{0: open(0, last, 1), 1: closed(0, last, 1), 63: open(last, 0, 1)})
		for _, ids := range [][]int{nil, {0}, {63}, {0, 63}, {5}, {-1}, {64}, {1}, {math.MinInt}, {math.MaxInt}, {0, 5}, {0, 1}, {5, 1, 0}} {
			for _, v := range noVertices(n) {
				for _, pair := range [][2]int{{v, 0}, {v, last}, {0, v}, {last, v}, {v, v}} {
					if code := Check(g, pair[0], pair[1], ids); code != api.Arg {
						t.Errorf("P9.1: n %d: Check(%v, %v): %d", n, pair, ids, code)
					}
				}
				if l, code := Visits(g, v, ids); len(l) != 0 || code != api.Arg {
					t.Errorf("P9.3: n %d: Visits(%d, %v): %v, %d", n, v, ids, l, code)
				}
				if Simple(g, v, ids) {
					t.Errorf("P9.3: n %d: Simple(%d, %v)", n, v, ids)
				}
			}
		}
	}
}

// Numbers of no arc, alone and behind and ahead of others.
func TestNoArc(t *testing.T) {
	r := roads{0: open(0, 1, 1), 5: open(1, 0, 1), 63: open(1, 2, 1)}
	g := made(t, 3, r)
	free := []int{1, 2, 4, 6, 31, 32, 33, 61, 62}
	for _, id := range append(free, noArcs...) {
		for _, ids := range [][]int{{id}, {id, 0}, {0, id}, {0, id, 63}, {0, 63, id}, {id, id}, {0, 5, 0, id, 5}} {
			for to := range 3 {
				if code := Check(g, 0, to, ids); code != api.NotFound {
					t.Errorf("P9.1: Check(0, %d, %v): %d", to, ids, code)
				}
			}
			if sum := Sum(g, ids); sum != api.None {
				t.Errorf("P9.2: Sum(%v): %d", ids, sum)
			}
			if l, code := Visits(g, 0, ids); len(l) != 0 || code != api.NotFound {
				t.Errorf("P9.3: Visits(0, %v): %v, %d", ids, l, code)
			}
			if Simple(g, 0, ids) {
				t.Errorf("P9.3: Simple(0, %v)", ids)
			}
		}
	}
}

// Sums at their edges: open arcs and closed ones, that lead on or don't, the same one more than once.
func TestSum(t *testing.T) {
	const half = api.Most / 2
	g := made(t, 4, roads{
		0: open(0, 1, 1), 1: open(1, 2, api.Most-1), 2: open(3, 3, half), 3: closed(2, 0, 2), 4: closed(0, 3, api.Most), 5: open(2, 1, api.Most), 63: closed(1, 1, 1),
	})
	for _, c := range []struct {
		ids  []int
		want int
	}{
		{[]int{0}, 1},
		{[]int{63}, 1},
		{[]int{3}, 2},
		{[]int{1}, api.Most - 1},
		{[]int{4}, api.Most},
		{[]int{5}, api.Most},
		{[]int{0, 0, 0}, 3},
		{[]int{63, 3, 0}, 4},
		{[]int{0, 1}, api.Most},
		{[]int{1, 0}, api.Most},
		{[]int{1, 63}, api.Most},
		{[]int{2, 2}, api.Most},
		{[]int{0, 1, 0}, api.Far},
		{[]int{1, 3}, api.Far},
		{[]int{3, 1}, api.Far},
		{[]int{4, 0}, api.Far},
		{[]int{0, 4}, api.Far},
		{[]int{63, 5}, api.Far},
		{[]int{4, 5}, api.Far},
		{[]int{2, 2, 2}, api.Far},
		{[]int{2, 2, 2, 2}, api.Far},
		{[]int{5, 5, 5, 5}, api.Far},
		{[]int{5, 5, 5, 5, 5, 0}, api.Far},
		{[]int{9}, api.None},
		{[]int{9, 9}, api.None},
		{[]int{9, 0}, api.None},
		{[]int{0, 9}, api.None},
		{[]int{63, 9, 3}, api.None},
		{[]int{5, 5, 9}, api.None},
		{[]int{9, 5, 5}, api.None},
		{[]int{5, 9, 5}, api.None},
		{[]int{5, 5, 5, 5, -1}, api.None},
	} {
		if got := Sum(g, c.ids); got != c.want {
			t.Errorf("P9.2: Sum(%v): %d, want %d", c.ids, got, c.want)
		}
	}
}

// Whether arcs lead on is no matter to what they come to: in any order it is the same.
func TestSumInAnyOrder(t *testing.T) {
	g := made(t, 5, town())
	ids := []int{0, 30, 63, 2, 31, 20}
	want := Sum(g, ids)
	if want != 33 {
		t.Errorf("P9.2: Sum(%v): %d", ids, want)
	}
	d := dice(9)
	for range 200 {
		i, j := d.below(len(ids)), d.below(len(ids))
		ids[i], ids[j] = ids[j], ids[i]
		if got := Sum(g, ids); got != want {
			t.Errorf("P9.2: Sum(%v): %d, want %d", ids, got, want)
		}
	}
}

// A walk that is too long to be told is one.
func TestFarWalk(t *testing.T) {
	g := made(t, 3, roads{0: open(0, 1, api.Most), 63: open(1, 2, api.Most)})
	ids := []int{0, 63}
	if code := Check(g, 0, 2, ids); code != api.OK {
		t.Errorf("P9.1: Check(0, 2, 0 63): %d", code)
	}
	if !Simple(g, 0, ids) {
		t.Error("P9.3: Simple(0, 0 63): false")
	}
}

// A walk by all vertices, of each number of them, is simple; one arc more, and it isn't.
func TestAllVertices(t *testing.T) {
	for n := 1; n <= 24; n++ {
		r, ids, want := roads{}, []int{}, []int{0}
		for v := range n {
			r[63-v] = open(v, (v+1)%n, v+1)
			r[v] = open(v, v, 1)
		}
		for v := range n - 1 {
			ids, want = append(ids, 63-v), append(want, v+1)
		}
		g := made(t, n, r)
		if l, code := Visits(g, 0, ids); !slices.Equal(l, want) || code != api.OK {
			t.Errorf("P9.3: n %d: Visits: %v, %d", n, l, code)
		}
		if code := Check(g, 0, n-1, ids); code != api.OK {
			t.Errorf("P9.1: n %d: Check(0, %d): %d", n, n-1, code)
		}
		if !Simple(g, 0, ids) {
			t.Errorf("P9.3: n %d: Simple: false", n)
		}
		around := append(slices.Clone(ids), 64-n)
		if code := Check(g, 0, 0, around); code != api.OK || Simple(g, 0, around) {
			t.Errorf("P9.1, P9.3: n %d: back to where it began: Check: %d", n, code)
		}
		for at := range n {
			stay := slices.Insert(slices.Clone(ids), at, at)
			if code := Check(g, 0, n-1, stay); code != api.OK || Simple(g, 0, stay) {
				t.Errorf("P9.1, P9.3: n %d: twice at %d: Check: %d", n, at, code)
			}
		}
	}
}

// Each arc by itself, at each place, from each vertex to each.
func TestEachPlace(t *testing.T) {
	for _, n := range []int{1, 2, 3, 24} {
		ends := []int{-1, 0, n / 2, n - 1, n}
		for id := range 64 {
			for _, shut := range []bool{false, true} {
				r := roads{id: api.Arc{Tail: id % n, Head: id / 3 % n, Weight: id + 1, Closed: shut}}
				g := made(t, n, r)
				for other := -1; other <= 64; other++ {
					same(t, g, r, n, append(ends, id%n, id/3%n), []int{other})
				}
			}
		}
	}
}

// All lists of up to four numbers, from each vertex and to each, and of some that there aren't.
func TestAllShortLists(t *testing.T) {
	r := roads{0: open(0, 1, 1), 1: open(0, 1, api.Most-2), 2: open(1, 0, 1), 3: open(1, 2, 2), 4: closed(1, 2, 1), 5: open(1, 1, 1), 6: closed(2, 0, api.Most), 63: open(2, 2, 4)}
	g := made(t, 3, r)
	numbers := []int{0, 1, 2, 3, 4, 5, 6, 63, 40, -1, 64}
	ends := []int{-1, 0, 1, 2, 3}
	var all func(ids []int, left int)
	all = func(ids []int, left int) {
		same(t, g, r, 3, ends, ids)
		if left == 0 {
			return
		}
		for _, id := range numbers {
			all(append(ids, id), left-1)
		}
	}
	all(nil, 4)
}

// Long lists that look like chance, most of which are walks for a while, over graphs of each size.
func TestLongLists(t *testing.T) {
	d := dice(26)
	met := map[string]int{}
	for n := 1; n <= 24; n++ {
		r := roads{}
		for id := range 64 {
			if d.below(8) > 0 {
				r[id] = api.Arc{Tail: d.below(n), Head: d.below(n), Weight: 1 + d.below(1<<30), Closed: d.below(8) == 0}
			}
		}
		g := made(t, n, r)
		for range 300 {
			from, ids := d.below(n), []int(nil)
			at := from
			for range d.below(12) {
				id := d.below(64)
				// Mostly an arc that leads on, if one is soon found.
				for tries := 0; tries < 200 && d.below(40) > 0 && (r[id].Weight == 0 || r[id].Closed || r[id].Tail != at); tries++ {
					id = d.below(64)
				}
				ids, at = append(ids, id), r[id].Head
			}
			same(t, g, r, n, []int{from, at, d.below(n), -1, n}, ids)
			met[fmt.Sprint("Check", Check(g, from, at, ids))]++
			met[fmt.Sprint("Simple", Simple(g, from, ids))]++
		}
	}
	for _, what := range []string{"Check0", "Check3", "Check5", "Check8", "Simpletrue", "Simplefalse"} {
		if met[what] < 50 {
			t.Errorf("%s came %d times alone", what, met[what])
		}
	}
}

// A list of very many arcs.
func TestVeryLong(t *testing.T) {
	const many = 1 << 20
	g := made(t, 2, roads{0: open(0, 1, 1), 63: open(1, 0, 2), 7: closed(0, 1, 1)})
	ids := make([]int, many)
	for i := range ids {
		ids[i] = i % 2 * 63
	}
	if code := Check(g, 0, 0, ids); code != api.OK {
		t.Errorf("P9.1: Check: %d", code)
	}
	if sum := Sum(g, ids); sum != many/2*3 {
		t.Errorf("P9.2: Sum: %d", sum)
	}
	if l, code := Visits(g, 0, ids); len(l) != many+1 || code != api.OK || l[0] != 0 || l[many-1] != 1 || l[many] != 0 {
		t.Errorf("P9.3: Visits: %d vertices, %d", len(l), code)
	}
	if Simple(g, 0, ids) {
		t.Error("P9.3: Simple")
	}
	ids[many-2] = 7
	if l, code := Visits(g, 0, ids); len(l) != 0 || code != api.State {
		t.Errorf("P9.3: Visits, one of the last is closed: %d vertices, %d", len(l), code)
	}
}

// What is told is of the graph as it is then.
func TestGraphChanges(t *testing.T) {
	r := roads{0: open(0, 1, 1), 1: open(1, 2, 5)}
	g := made(t, 3, r)
	ids := []int{0, 1}
	for i, c := range []struct {
		change func() api.Code
		code   api.Code
		sum    int
	}{
		{func() api.Code { return g.Weigh(0, 4) }, api.OK, 9},
		{func() api.Code { return g.Close(1) }, api.State, 9},
		{func() api.Code { return g.Weigh(1, api.Most-4) }, api.State, api.Most},
		{func() api.Code { return g.Reopen(1) }, api.OK, api.Most},
		{func() api.Code { return g.Weigh(0, 5) }, api.OK, api.Far},
		{func() api.Code { return g.Delete(0) }, api.NotFound, api.None},
		{func() api.Code { return g.Insert(0, open(0, 2, 4)) }, api.Malformed, api.Most},
		{func() api.Code { return g.Delete(1) }, api.NotFound, api.None},
		{func() api.Code { return g.Insert(1, open(2, 2, 4)) }, api.OK, 8},
	} {
		if code := c.change(); code != api.OK {
			t.Fatalf("P8.2: change %d: %d", i, code)
		}
		if code := Check(g, 0, 2, ids); code != c.code {
			t.Errorf("P9.1: change %d: Check(0, 2, 0 1): %d, want %d", i, code, c.code)
		}
		if _, code := Visits(g, 0, ids); code != c.code {
			t.Errorf("P9.3: change %d: Visits(0, 0 1): %d, want %d", i, code, c.code)
		}
		if sum := Sum(g, ids); sum != c.sum {
			t.Errorf("P9.2: change %d: Sum(0 1): %d, want %d", i, sum, c.sum)
		}
	}
}

// What is handed in stays as it is, its spare room too.
func TestHandedInStays(t *testing.T) {
	r := town()
	g := made(t, 5, r)
	for _, list := range [][]int{{}, {0}, {0, 2, 10, 63}, {0, 2, 3}, {0, 5}, {30}, {2}, {-1, 64}} {
		room := append(slices.Clone(list), 77, 78, 79)
		was := slices.Clone(room)
		ids := room[:len(list)]
		for _, from := range []int{-1, 0, 4, 5} {
			Check(g, from, 3, ids)
			Sum(g, ids)
			Visits(g, from, ids)
			Simple(g, from, ids)
		}
		if !slices.Equal(room, was) {
			t.Errorf("P9.1 to P9.3: %v became %v", was, room)
		}
	}
	if g.Len() != len(r) || g.Vertices() != 5 {
		t.Errorf("P9.1 to P9.3: the graph: %d arcs, %d vertices", g.Len(), g.Vertices())
	}
	for id, want := range r {
		if a, ok := g.Arc(id); a != want || !ok {
			t.Errorf("P9.1 to P9.3: the graph: arc %d: %v, %v, want %v", id, a, ok, want)
		}
	}
}

// What Visits answers has memory of its own: neither is the list kept, nor does one answer reach into another one.
func TestAnswersAreOwn(t *testing.T) {
	g := made(t, 5, town())
	ids := []int{0, 2, 10, 63}
	want := []int{0, 1, 2, 4, 3}
	first, _ := Visits(g, 0, ids)
	second, _ := Visits(g, 0, ids)
	clear(ids)
	if !slices.Equal(first, want) {
		t.Errorf("P9.3: the list is written over: %v", first)
	}
	clear(first)
	_ = append(first, 9, 9)
	if !slices.Equal(second, want) {
		t.Errorf("P9.3: another answer is written over: %v", second)
	}
	third, code := Visits(g, 0, []int{0, 2, 10, 63})
	if !slices.Equal(third, want) || code != api.OK {
		t.Errorf("P9.3: again: %v, %d", third, code)
	}
}
