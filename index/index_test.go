package index

import (
	"fmt"
	"iter"
	"maps"
	"math"
	"slices"
	"testing"

	"ringroad/api"
	"ringroad/graph"
	"ringroad/perm"
)

const most, far, noWay = api.Most, api.Far, api.None

// no is no entry, as it is told.
var no = api.Entry{Weight: noWay, Arc: -1, Mid: -1}

// arc is a plain entry.
func arc(weight, id int) api.Entry { return api.Entry{Weight: weight, Arc: id, Mid: -1} }

// by is a shortcut.
func by(weight, mid int) api.Entry { return api.Entry{Weight: weight, Arc: -1, Mid: mid} }

// link is an entry with its ends.
func link(u, w int, e api.Entry) api.Link { return api.Link{Tail: u, Head: w, Entry: e} }

// noVertices are numbers of no vertex and no rank of n, though some look like one by their last bits.
func noVertices(n int) []int {
	return []int{
		math.MinInt, math.MinInt + 1, math.MinInt32, -1 << 32, -256, -64, -24, -n, -2, -1,
		n, n + 1, n + 24, n + 64, n + 256, math.MaxInt32, 1 << 32, 1<<32 + n - 1, math.MaxInt - 1, math.MaxInt,
	}
}

// sheet is an index in a form of the tests' own: each vertex's rank, and the entries that there are.
type sheet struct {
	ranks   []int
	entries map[[2]int]api.Entry
}

func newSheet(ranks []int) *sheet { return &sheet{slices.Clone(ranks), map[[2]int]api.Entry{}} }

func (s *sheet) copied() *sheet { return &sheet{slices.Clone(s.ranks), maps.Clone(s.entries)} }

// set: an entry that may be there, or none.
func (s *sheet) set(u, w int, e api.Entry) {
	delete(s.entries, [2]int{u, w})
	if e != no {
		s.entries[[2]int{u, w}] = e
	}
}

func (s *sheet) at(u, w int) api.Entry {
	if e, ok := s.entries[[2]int{u, w}]; ok {
		return e
	}
	return no
}

// vertex: is there such a one?
func (s *sheet) vertex(v int) bool { return v >= 0 && v < len(s.ranks) }

// both: are they two unlike vertices?
func (s *sheet) both(u, w int) bool { return s.vertex(u) && s.vertex(w) && u != w }

// lower: is a vertex lower than another one?
func (s *sheet) lower(m, v int) bool { return s.ranks[m] < s.ranks[v] }

// may: may that be set from one to the other?
func (s *sheet) may(u, w int, e api.Entry) bool {
	if !s.both(u, w) {
		return false
	}
	isPlain := e.Mid == -1 && 0 <= e.Arc && e.Arc <= 63
	isShortcut := e.Arc == -1 && s.vertex(e.Mid) && s.lower(e.Mid, u) && s.lower(e.Mid, w)
	return e == no || 1 <= e.Weight && e.Weight <= far && (isPlain || isShortcut)
}

// rising: the vertices by their ranks, found one by one.
func (s *sheet) rising() []int {
	var l []int
	for rank := range s.ranks {
		l = append(l, slices.Index(s.ranks, rank))
	}
	return l
}

// links: those of all entries of which something is so, in their order.
func (s *sheet) links(so func(api.Link) bool) []api.Link {
	var l []api.Link
	for ends, e := range s.entries {
		if x := link(ends[0], ends[1], e); so(x) {
			l = append(l, x)
		}
	}
	slices.SortFunc(l, func(a, b api.Link) int {
		return 100*(s.ranks[a.Tail]-s.ranks[b.Tail]) + s.ranks[a.Head] - s.ranks[b.Head]
	})
	return l
}

// pair is what an iterator tells at a time.
type pair struct {
	v int
	e api.Entry
}

// up, down: what Up and Down should tell.
func (s *sheet) up(v int) []pair {
	var l []pair
	for _, x := range s.links(func(x api.Link) bool { return x.Tail == v && s.lower(v, x.Head) }) {
		l = append(l, pair{x.Head, x.Entry})
	}
	return l
}

func (s *sheet) down(v int) []pair {
	var l []pair
	for _, x := range s.links(func(x api.Link) bool { return x.Head == v && s.lower(v, x.Tail) }) {
		l = append(l, pair{x.Tail, x.Entry})
	}
	return l
}

// plus: the sum of two weights of entries, None if there is none of one of them.
func plus(a, b uint64) uint64 {
	if a == noWay || b == noWay {
		return noWay
	}
	return min(a+b, far)
}

// right: the right entry, word by word: all sums are written down, then it is looked for the least one.
func (s *sheet) right(arcs map[int]api.Arc, u, w int) api.Entry {
	if !s.both(u, w) {
		return no
	}
	direct, id := uint64(noWay), -1
	for i := range 64 {
		a, ok := arcs[i]
		if ok && !a.Closed && a.Tail == u && a.Head == w && uint64(a.Weight) < direct {
			direct, id = uint64(a.Weight), i
		}
	}
	var sums []uint64
	var mids []int
	for _, m := range s.rising() {
		if s.lower(m, u) && s.lower(m, w) {
			sums = append(sums, plus(uint64(s.at(u, m).Weight), uint64(s.at(m, w).Weight)))
			mids = append(mids, m)
		}
	}
	least := slices.Min(append(slices.Clone(sums), noWay))
	if direct != noWay && direct <= least {
		return arc(int(direct), id)
	}
	if least == noWay {
		return no
	}
	return by(int(least), mids[slices.Index(sums, least)])
}

// made: an index, and its sheet, of an order, with these entries, all of which may be set.
func made(t *testing.T, ranks []int, links ...api.Link) (*Index, *sheet) {
	t.Helper()
	x, code := New(ranks)
	if x == nil || code != api.OK {
		t.Fatalf("P15.1: New(%v): %v, %d", ranks, x, code)
	}
	s := newSheet(ranks)
	for _, l := range links {
		set(t, x, s, l.Tail, l.Head, l.Entry)
	}
	return x, s
}

// set: an entry that may be set.
func set(t *testing.T, x *Index, s *sheet, u, w int, e api.Entry) {
	t.Helper()
	if code := x.Set(u, w, e); code != api.OK {
		t.Fatalf("P15.2: of %v: Set(%d, %d, %v): %d", s.ranks, u, w, e, code)
	}
	s.set(u, w, e)
}

// refused: an entry that may not be set, and nothing is changed by it.
func refused(t *testing.T, x *Index, u, w int, e api.Entry) {
	t.Helper()
	was := *x
	if code := x.Set(u, w, e); code != api.Arg || *x != was {
		t.Fatalf("P15.2: Set(%d, %d, %v): %d, the index is as it was: %v", u, w, e, code, *x == was)
	}
}

// gone: all that an iterator tells.
func gone(seq iter.Seq2[int, api.Entry]) []pair {
	var l []pair
	for v, e := range seq {
		l = append(l, pair{v, e})
	}
	return l
}

// same: does the index tell all that its sheet does?
func same(t *testing.T, what string, x *Index, s *sheet) {
	t.Helper()
	n := len(s.ranks)
	if x == nil || x.Vertices() != n {
		t.Fatalf("P15.1: %s: of %v: Vertices: %v", what, s.ranks, x)
	}
	for v, rank := range s.ranks {
		if x.Rank(v) != rank || x.By(rank) != v {
			t.Fatalf("P15.1: %s: of %v: Rank(%d): %d, By(%d): %d", what, s.ranks, v, x.Rank(v), rank, x.By(rank))
		}
		for w := range n {
			low := -1
			if v != w {
				low = w
				if s.lower(v, w) {
					low = v
				}
			}
			if got := x.Low(v, w); got != low {
				t.Fatalf("P15.1: %s: of %v: Low(%d, %d): %d, want %d", what, s.ranks, v, w, got, low)
			}
			if got, want := x.At(v, w), s.at(v, w); got != want {
				t.Fatalf("P15.2: %s: of %v: At(%d, %d): %v, want %v", what, s.ranks, v, w, got, want)
			}
		}
		if got, want := gone(x.Up(v)), s.up(v); !slices.Equal(got, want) {
			t.Fatalf("P15.3: %s: of %v: Up(%d): %v, want %v", what, s.ranks, v, got, want)
		}
		if got, want := gone(x.Down(v)), s.down(v); !slices.Equal(got, want) {
			t.Fatalf("P15.3: %s: of %v: Down(%d): %v, want %v", what, s.ranks, v, got, want)
		}
	}
	if got, want := x.Links(), s.links(func(api.Link) bool { return true }); !slices.Equal(got, want) {
		t.Fatalf("P15.3: %s: of %v: Links: %v, want %v", what, s.ranks, got, want)
	}
	if got, want := x.Shortcuts(), s.links(func(l api.Link) bool { return l.Entry.Arc < 0 }); !slices.Equal(got, want) {
		t.Fatalf("P15.3: %s: of %v: Shortcuts: %v, want %v", what, s.ranks, got, want)
	}
}

// town: a graph with these arcs, all of which may lie there.
func town(t *testing.T, n int, arcs map[int]api.Arc) *graph.Graph {
	t.Helper()
	g, code := graph.New(n, api.MaxArcs)
	if g == nil || code != api.OK {
		t.Fatalf("P8.1: New(%d, %d): %v, %d", n, api.MaxArcs, g, code)
	}
	for id, a := range arcs {
		if code := g.Insert(id, a); code != api.OK {
			t.Fatalf("P8.1: Insert(%d, %v): %d", id, a, code)
		}
	}
	return g
}

// best: is Best the right entry for each two, and are the index and the graph as they were?
func best(t *testing.T, what string, x *Index, s *sheet, g *graph.Graph, arcs map[int]api.Arc) {
	t.Helper()
	was, before := *x, *g
	for u := range s.ranks {
		for w := range s.ranks {
			if got, want := x.Best(g, u, w), s.right(arcs, u, w); got != want {
				t.Fatalf("P15.4: %s: of %v, %v, arcs %v: Best(%d, %d): %v, want %v", what, s.ranks, s.entries, arcs, u, w, got, want)
			}
		}
	}
	if *x != was || *g != before {
		t.Fatalf("P15.4: %s: behind Best the index is as it was: %v, the graph: %v", what, *x == was, *g == before)
	}
}

// like: Same, either way.
func like(t *testing.T, what string, x, y *Index, want bool) {
	t.Helper()
	if x.Same(y) != want || y.Same(x) != want {
		t.Errorf("P15.4: %s: Same: %v, the other way %v, want %v", what, x.Same(y), y.Same(x), want)
	}
}

// dice are numbers that look like chance and are the same each time.
type dice uint64

func (d *dice) next() uint64 {
	*d = *d*6364136223846793005 + 1442695040888963407
	return uint64(*d>>32) | uint64(*d<<32)
}

func (d *dice) below(n int) int { return int(d.next() % uint64(n)) }

// lengths: ways to throw lengths that a weight may have, too: often alike, rarely alike, such that two come to just about Most, about Most each, of all sizes, and such that sums are often as great as others.
func (d *dice) lengths() []func() int {
	return []func() int{
		func() int { return 1 + d.below(3) },
		func() int { return 1 + d.below(1000) },
		func() int { return most/2 - 1 + d.below(3) },
		func() int { return most - d.below(3) },
		func() int { return 1 + int(d.next()>>(2+d.below(60))) },
		func() int { return 1 << d.below(4) },
	}
}

// order: one that looks like chance.
func (d *dice) order(n int) []int {
	l := perm.Rising(n)
	for i := range l {
		j := i + d.below(n-i)
		l[i], l[j] = l[j], l[i]
	}
	return l
}

// entry: one that may be set between two, now and then one at Far: a shortcut, if there is a lower vertex, as often as not.
func (d *dice) entry(s *sheet, u, w int, length func() int) api.Entry {
	long := length()
	if d.below(20) == 0 {
		long = far
	}
	if low := min(s.ranks[u], s.ranks[w]); low > 0 && d.below(2) == 0 {
		return by(long, slices.Index(s.ranks, d.below(low)))
	}
	return arc(long, d.below(64))
}

// filled: an index and its sheet with entries that look like chance, so many of 8 of those that there can be.
func (d *dice) filled(t *testing.T, ranks []int, many int, length func() int) (*Index, *sheet) {
	t.Helper()
	x, s := made(t, ranks)
	for u := range ranks {
		for w := range ranks {
			if u != w && d.below(8) < many {
				set(t, x, s, u, w, d.entry(s, u, w, length))
			}
		}
	}
	return x, s
}

// roads: arcs that look like chance; there are loops, closed ones, and such as lie beside others among them.
func (d *dice) roads(n, many int, length func() int) map[int]api.Arc {
	arcs := map[int]api.Arc{}
	for len(arcs) < many {
		a := api.Arc{Tail: d.below(n), Head: d.below(n), Weight: length(), Closed: d.below(6) == 0}
		arcs[d.below(64)] = a
		if d.below(3) == 0 {
			a.Weight, a.Closed = length(), false
			arcs[d.below(64)] = a
		}
	}
	return arcs
}

// orders: all orders of n vertices.
func orders(n int) [][]int {
	if n == 0 {
		return [][]int{nil}
	}
	var all [][]int
	for _, l := range orders(n - 1) {
		for at := range n {
			all = append(all, slices.Insert(slices.Clone(l), at, n-1))
		}
	}
	return all
}

func TestExample(t *testing.T) {
	x, _ := made(t, []int{1, 0, 2}, link(0, 1, arc(2, 0)), link(1, 2, arc(3, 1)))
	g := town(t, 3, nil)
	if got := x.Best(g, 0, 2); got != by(5, 1) {
		t.Errorf("P15.4: the example: Best(0, 2): %v", got)
	}
	if got := x.Best(g, 2, 0); got != no {
		t.Errorf("P15.4: the example: Best(2, 0): %v", got)
	}
}

// All orders of 1 to 6 vertices, and some of each number of vertices: the index is of that order, without entries.
func TestNew(t *testing.T) {
	var all [][]int
	for n := 1; n <= 6; n++ {
		all = append(all, orders(n)...)
	}
	d := dice(1)
	for n := 1; n <= 24; n++ {
		all = append(all, perm.Rising(n), perm.Falling(n), perm.Turned(n, 1), perm.Turned(n, n/2), d.order(n), d.order(n))
	}
	for _, ranks := range all {
		was := slices.Clone(ranks)
		x, s := made(t, ranks)
		same(t, "new", x, s)
		if !slices.Equal(ranks, was) {
			t.Fatalf("P15.1: New: the list was %v, is %v", was, ranks)
		}
	}
}

// Written out by hand: ranks, whose they are, and the lower one of two.
func TestRanksByHand(t *testing.T) {
	x, _ := made(t, []int{2, 0, 3, 1})
	for v, rank := range []int{2, 0, 3, 1} {
		if got := x.Rank(v); got != rank {
			t.Errorf("P15.1: Rank(%d): %d, want %d", v, got, rank)
		}
	}
	for rank, v := range []int{1, 3, 0, 2} {
		if got := x.By(rank); got != v {
			t.Errorf("P15.1: By(%d): %d, want %d", rank, got, v)
		}
	}
	for _, c := range [][3]int{
		{0, 1, 1}, {0, 2, 0}, {0, 3, 3}, {1, 2, 1}, {1, 3, 1}, {2, 3, 3},
		{0, 0, -1}, {3, 3, -1}, {-1, -1, -1}, {4, 4, -1}, {0, 4, -1}, {1, -1, -1},
	} {
		if got, back := x.Low(c[0], c[1]), x.Low(c[1], c[0]); got != c[2] || back != c[2] {
			t.Errorf("P15.1: Low(%d, %d): %d, the other way %d, want %d", c[0], c[1], got, back, c[2])
		}
	}
}

func TestNewWrong(t *testing.T) {
	lists := [][]int{
		nil, {}, make([]int, 0, 8), perm.Rising(24)[:0],
		{1}, {-1}, {24}, {math.MinInt}, {math.MaxInt}, {1 << 32}, {64}, {256}, {-64}, {0, 0}, {1, 1}, {0, 2}, {1, 2}, {-1, 0}, {0, -1}, {0, 1, 1}, {0, 2, 2}, {2, 0, 3}, {0, 65}, {64, 1}, {1 << 32, 1}, {math.MinInt, 1}, {0, math.MinInt + 1}, {math.MaxInt, 0},
		append(perm.Rising(24), 24), append(perm.Rising(24), 0), append(perm.Rising(24), 23), append(perm.Rising(24), -1), append(perm.Falling(24), perm.Falling(24)...), make([]int, 25), make([]int, 1000),
	}
	long := make([]int, 70)
	for v := range long {
		long[v] = v
	}
	lists = append(lists, long[:25], long[:26], long[:64], long[:65], long)
	for n := 1; n <= 24; n++ {
		for at := range n {
			for _, rank := range append(noVertices(n), perm.Falling(n)[(at+1)%n]) {
				l := perm.Falling(n)
				if l[at] != rank {
					l[at] = rank
					lists = append(lists, l)
				}
			}
		}
	}
	for _, l := range lists {
		was := slices.Clone(l)
		if x, code := New(l); x != nil || code != api.Arg || !slices.Equal(l, was) {
			t.Errorf("P15.1: New(%v): %v, %d, the list is as it was: %v", was, x, code, slices.Equal(l, was))
		}
	}
}

// The list that New was handed may be written over, its spare room stays, and a part of a longer list is as good as a list.
func TestNewKeepsNothing(t *testing.T) {
	list := []int{7, 1, 2, 0, 9, 9}
	x, s := made(t, list[1:4], link(1, 0, arc(3, 4)))
	if !slices.Equal(list, []int{7, 1, 2, 0, 9, 9}) {
		t.Fatalf("P15.1: New: the list around what was handed in is %v", list)
	}
	other := x.Copy()
	for at := range list {
		list[at] = 2 - at
	}
	same(t, "the list is written over", x, s)
	same(t, "the list is written over: a copy", other, s)
	set(t, x, s, 1, 0, by(6, 2))
	same(t, "the list is written over, an entry is set", x, s)
	if !slices.Equal(list, []int{2, 1, 0, -1, -2, -3}) {
		t.Errorf("P15.1: behind Set the list that New was handed is %v", list)
	}
}

// What is no vertex, and no rank, of each number of vertices; nothing comes of it, and nothing is changed.
func TestNoVertices(t *testing.T) {
	for n := 1; n <= 24; n++ {
		d := dice(n)
		x, s := d.filled(t, d.order(n), 6, func() int { return 1 + d.below(9) })
		g := town(t, n, map[int]api.Arc{0: {Tail: 0, Head: n - 1, Weight: 1}, 1: {Tail: 0, Head: 0, Weight: 1}, 2: {Tail: n - 1, Head: n - 1, Weight: 1}})
		was, before := *x, *g
		for _, a := range noVertices(n) {
			if x.Rank(a) != -1 || x.By(a) != -1 {
				t.Errorf("P15.1: of %d: Rank(%d): %d, By: %d", n, a, x.Rank(a), x.By(a))
			}
			if up, down := gone(x.Up(a)), gone(x.Down(a)); len(up) > 0 || len(down) > 0 {
				t.Errorf("P15.3: of %d: Up(%d): %v, Down: %v", n, a, up, down)
			}
			for b := range n {
				noTwo(t, x, g, a, b)
				noTwo(t, x, g, b, a)
			}
			for _, b := range noVertices(n) {
				noTwo(t, x, g, a, b)
			}
		}
		for v := range n {
			noTwo(t, x, g, v, v)
		}
		if *x != was || *g != before {
			t.Errorf("P15.2: of %d: the index is as it was: %v, the graph: %v", n, *x == was, *g == before)
		}
		same(t, "what is wrong was asked", x, s)
	}
}

// noTwo: what is asked of two that aren't unlike vertices.
func noTwo(t *testing.T, x *Index, g *graph.Graph, u, w int) {
	t.Helper()
	n := x.Vertices()
	if got := x.Low(u, w); got != -1 {
		t.Errorf("P15.1: of %d: Low(%d, %d): %d", n, u, w, got)
	}
	if got := x.At(u, w); got != no {
		t.Errorf("P15.2: of %d: At(%d, %d): %v", n, u, w, got)
	}
	for _, e := range []api.Entry{no, arc(1, 0), by(1, x.By(0)), {}} {
		if code := x.Set(u, w, e); code != api.Arg {
			t.Errorf("P15.2: of %d: Set(%d, %d, %v): %d", n, u, w, e, code)
		}
	}
	if got := x.Best(g, u, w); got != no {
		t.Errorf("P15.4: of %d: Best(%d, %d): %v", n, u, w, got)
	}
}

// Written out by hand, one behind the other in one index: what is set, and the code.
func TestSetByHand(t *testing.T) {
	// By rank: 2, 0, 3, 1.
	x, s := made(t, []int{1, 3, 0, 2})
	for i, c := range []struct {
		u, w int
		e    api.Entry
		want api.Code
	}{
		{0, 2, arc(4, 0), api.OK},
		{2, 0, arc(1, 63), api.OK},
		{2, 3, arc(most, 5), api.OK},
		{2, 1, arc(far, 1), api.OK},
		// By way of one that is lower than both, whether there are entries to it and from it or not.
		{0, 3, by(1, 2), api.OK},
		{3, 0, by(far, 2), api.OK},
		{3, 1, by(9, 0), api.OK},
		{1, 3, by(9, 2), api.OK},
		// Set anew: of the other kind, by another arc, by another middle, with another weight, and the same again.
		{0, 3, arc(1, 2), api.OK},
		{0, 3, arc(1, 3), api.OK},
		{3, 1, by(9, 2), api.OK},
		{3, 1, by(10, 2), api.OK},
		{3, 1, by(10, 2), api.OK},
		{2, 1, arc(1, 1), api.OK},
		// Taken away, taken away again, and set again.
		{0, 2, no, api.OK},
		{0, 2, no, api.OK},
		{0, 2, arc(2, 9), api.OK},
		{1, 3, no, api.OK},
		{1, 0, no, api.OK},
		// A middle that isn't lower than both: one that is lower than one of them, than none, and one of the ends.
		{0, 3, by(9, 1), api.Arg},
		{3, 1, by(9, 1), api.Arg},
		{3, 1, by(9, 3), api.Arg},
		{0, 3, by(9, 0), api.Arg},
		{0, 3, by(9, 3), api.Arg},
		{0, 1, by(9, 3), api.Arg},
		{1, 0, by(9, 3), api.Arg},
		{2, 0, by(9, 2), api.Arg},
		{2, 0, by(9, 3), api.Arg},
		{0, 2, by(9, 1), api.Arg},
		// Weights.
		{0, 3, arc(0, 1), api.Arg},
		{0, 3, arc(-1, 1), api.Arg},
		{0, 3, arc(noWay, 1), api.Arg},
		{0, 3, arc(noWay+1, 1), api.Arg},
		{0, 3, by(0, 2), api.Arg},
		{0, 3, by(noWay, 2), api.Arg},
		{0, 3, by(math.MinInt, 2), api.Arg},
		{0, 3, by(math.MaxInt, 2), api.Arg},
		// Both an arc and a middle, or neither of them.
		{0, 3, api.Entry{Weight: 3, Arc: 1, Mid: 2}, api.Arg},
		{0, 3, api.Entry{Weight: noWay, Arc: 1, Mid: 2}, api.Arg},
		{0, 3, arc(3, -1), api.Arg},
		{0, 3, arc(far, -1), api.Arg},
		{0, 3, arc(0, -1), api.Arg},
		{0, 3, arc(noWay+1, -1), api.Arg},
		{0, 3, api.Entry{}, api.Arg},
		// No such arc, or no such vertex.
		{0, 3, arc(9, 64), api.Arg},
		{0, 3, arc(9, -2), api.Arg},
		{0, 3, by(9, 4), api.Arg},
		{0, 3, by(9, -2), api.Arg},
		{0, 3, arc(noWay, -2), api.Arg},
		{0, 3, by(noWay, -2), api.Arg},
		{0, 3, api.Entry{Weight: 9, Arc: -2, Mid: 2}, api.Arg},
		{0, 3, api.Entry{Weight: 9, Arc: 1, Mid: -2}, api.Arg},
		// One vertex twice, and what is no vertex.
		{0, 0, arc(1, 1), api.Arg},
		{3, 3, no, api.Arg},
		{4, 0, no, api.Arg},
		{0, -1, arc(1, 1), api.Arg},
	} {
		was := *x
		if got := x.Set(c.u, c.w, c.e); got != c.want {
			t.Errorf("P15.2: by hand %d: Set(%d, %d, %v): %d, want %d", i, c.u, c.w, c.e, got, c.want)
		}
		if c.want == api.OK {
			s.set(c.u, c.w, c.e)
		} else if *x != was {
			t.Errorf("P15.2: by hand %d: Set(%d, %d, %v) changed the index", i, c.u, c.w, c.e)
		}
		same(t, fmt.Sprint("by hand ", i), x, s)
	}
	for _, l := range []api.Link{
		link(0, 1, no), link(0, 2, arc(2, 9)), link(0, 3, arc(1, 3)), link(1, 0, no), link(1, 2, no), link(1, 3, no),
		link(2, 0, arc(1, 63)), link(2, 1, arc(1, 1)), link(2, 3, arc(most, 5)), link(3, 0, by(far, 2)), link(3, 1, by(10, 2)), link(3, 2, no),
	} {
		if got := x.At(l.Tail, l.Head); got != l.Entry {
			t.Errorf("P15.2: At(%d, %d): %v, want %v", l.Tail, l.Head, got, l.Entry)
		}
	}
}

// All orders of 2 to 4 vertices, with each entry at the edges: what may be set, and what not.
func TestAllEntries(t *testing.T) {
	weights := []int{math.MinInt, -1, 0, 1, 2, most, far, noWay, noWay + 1, math.MaxInt}
	ids := []int{math.MinInt, -2, -1, 0, 63, 64, math.MaxInt}
	could, couldnt := 0, 0
	for n := 1; n <= 4; n++ {
		for _, ranks := range orders(n) {
			x, s := made(t, ranks)
			for u := -1; u <= n; u++ {
				for w := -1; w <= n; w++ {
					for number := range len(weights) * len(ids) * (n + 4) {
						e := api.Entry{Weight: weights[number%len(weights)], Arc: ids[number/len(weights)%len(ids)], Mid: number/len(weights)/len(ids) - 2}
						if !s.may(u, w, e) {
							refused(t, x, u, w, e)
							couldnt++
							continue
						}
						set(t, x, s, u, w, e)
						if got := x.At(u, w); got != e {
							t.Fatalf("P15.2: of %v: At(%d, %d): %v, want %v", ranks, u, w, got, e)
						}
						could++
					}
					same(t, "all entries", x, s)
				}
			}
		}
	}
	if could < 1000 || couldnt < 100000 {
		t.Errorf("%d could be set, %d not", could, couldnt)
	}
}

// Wrong parts of entries, up to the least and the greatest int, in an index of 24 vertices.
func TestSetWrong(t *testing.T) {
	// Vertex 23 is of rank 6, 0 of rank 7; lower than both are 17 to 22, of the ranks 0 to 5.
	x, s := made(t, perm.Turned(24, 7))
	set(t, x, s, 23, 0, arc(5, 5))
	for _, weight := range []int{math.MinInt, math.MinInt + 1, math.MinInt + 5, -1 << 32, -most, -far, -noWay, -1, 0, noWay + 1, noWay + 2, math.MaxInt - 1, math.MaxInt} {
		for _, e := range []api.Entry{arc(weight, 0), arc(weight, 63), by(weight, 17), by(weight, 22)} {
			refused(t, x, 23, 0, e)
		}
	}
	for _, weight := range []int{math.MinInt, -1, 0, 1, 5, most, far, noWay, noWay + 1, math.MaxInt} {
		for _, id := range []int{0, 5, 63} {
			for _, mid := range []int{0, 1, 17, 22, 23} {
				refused(t, x, 23, 0, api.Entry{Weight: weight, Arc: id, Mid: mid})
			}
		}
		if weight != noWay {
			refused(t, x, 23, 0, arc(weight, -1))
		}
	}
	for _, weight := range []int{1, 5, most, far, noWay} {
		for _, id := range []int{math.MinInt, math.MinInt + 1, math.MinInt32, -1 << 32, -1<<32 + 5, -256, -64, -63, -24, -3, -2, 64, 65, 69, 127, 128, 255, 256, math.MaxInt32, 1 << 32, 1<<32 + 5, math.MaxInt - 1, math.MaxInt} {
			refused(t, x, 23, 0, arc(weight, id))
			refused(t, x, 23, 0, api.Entry{Weight: weight, Arc: id, Mid: 20})
		}
		for _, mid := range noVertices(24) {
			if mid == -1 {
				continue
			}
			refused(t, x, 23, 0, by(weight, mid))
			refused(t, x, 23, 0, api.Entry{Weight: weight, Arc: 5, Mid: mid})
		}
		// The ends, and all that are higher than one of them, or than both.
		for v := range 17 {
			refused(t, x, 23, 0, by(weight, v))
			refused(t, x, 0, 23, by(weight, v))
		}
		refused(t, x, 23, 0, by(weight, 23))
		refused(t, x, 0, 23, by(weight, 23))
	}
	same(t, "refused", x, s)
	// What is wrong takes away nothing where there is no entry either.
	refused(t, x, 0, 23, arc(0, 5))
	same(t, "refused", x, s)
	for v := 17; v <= 22; v++ {
		set(t, x, s, 23, 0, by(far, v))
		set(t, x, s, 0, 23, by(1, v))
		same(t, "by those that are lower than both", x, s)
	}
}

// The lowest and the highest vertex and rank, the first and the last arc, the least and the greatest weight.
func TestEdges(t *testing.T) {
	for _, ranks := range [][]int{{0, 1}, {1, 0}, perm.Rising(24), perm.Falling(24), perm.Turned(24, 12)} {
		n := len(ranks)
		x, s := made(t, ranks)
		for i, e := range []api.Entry{arc(1, 0), arc(1, 63), arc(far, 0), arc(most, 63), no, arc(far, 63)} {
			set(t, x, s, 0, n-1, e)
			set(t, x, s, x.By(0), x.By(n-1), e)
			same(t, fmt.Sprint("edges ", i), x, s)
			set(t, x, s, n-1, 0, e)
			set(t, x, s, x.By(n-1), x.By(0), e)
			same(t, fmt.Sprint("edges back ", i), x, s)
		}
		if n > 2 {
			for i, e := range []api.Entry{by(1, x.By(0)), by(far, x.By(n-3)), by(far, x.By(0))} {
				set(t, x, s, x.By(n-1), x.By(n-2), e)
				set(t, x, s, x.By(n-2), x.By(n-1), e)
				same(t, fmt.Sprint("shortcuts at edges ", i), x, s)
			}
		}
		for _, v := range []int{x.By(0), x.By(n - 1)} {
			refused(t, x, v, x.By(n-2), by(1, v))
			refused(t, x, x.By(0), x.By(n-1), by(1, v))
		}
	}
}

// Written out by hand: what Up, Down, Links and Shortcuts tell, of a vertex with no entry, with one, with several.
func TestGoneThroughByHand(t *testing.T) {
	// By rank: 3, 0, 4, 2, 1.
	x, _ := made(t, []int{1, 4, 3, 0, 2},
		link(3, 1, arc(2, 7)), link(3, 2, arc(9, 0)), link(3, 0, arc(far, 63)),
		link(1, 3, arc(1, 1)), link(4, 3, arc(5, 2)),
		link(0, 4, by(8, 3)), link(1, 0, by(4, 3)), link(2, 0, arc(3, 3)),
		link(4, 1, by(6, 3)), link(4, 2, by(6, 0)), link(1, 2, by(7, 4)),
	)
	for v, c := range []struct{ up, down []pair }{
		{[]pair{{4, by(8, 3)}}, []pair{{2, arc(3, 3)}, {1, by(4, 3)}}},
		{nil, nil},
		{nil, []pair{{1, by(7, 4)}}},
		{[]pair{{0, arc(far, 63)}, {2, arc(9, 0)}, {1, arc(2, 7)}}, []pair{{4, arc(5, 2)}, {1, arc(1, 1)}}},
		{[]pair{{2, by(6, 0)}, {1, by(6, 3)}}, nil},
	} {
		if got := gone(x.Up(v)); !slices.Equal(got, c.up) {
			t.Errorf("P15.3: Up(%d): %v, want %v", v, got, c.up)
		}
		if got := gone(x.Down(v)); !slices.Equal(got, c.down) {
			t.Errorf("P15.3: Down(%d): %v, want %v", v, got, c.down)
		}
	}
	shortcuts := []api.Link{link(0, 4, by(8, 3)), link(4, 2, by(6, 0)), link(4, 1, by(6, 3)), link(1, 0, by(4, 3)), link(1, 2, by(7, 4))}
	all := []api.Link{
		link(3, 0, arc(far, 63)), link(3, 2, arc(9, 0)), link(3, 1, arc(2, 7)),
		shortcuts[0],
		link(4, 3, arc(5, 2)), shortcuts[1], shortcuts[2],
		link(2, 0, arc(3, 3)),
		link(1, 3, arc(1, 1)), shortcuts[3], shortcuts[4],
	}
	if got := x.Links(); !slices.Equal(got, all) {
		t.Errorf("P15.3: Links: %v, want %v", got, all)
	}
	if got := x.Shortcuts(); !slices.Equal(got, shortcuts) {
		t.Errorf("P15.3: Shortcuts: %v, want %v", got, shortcuts)
	}
}

// taken: what comes till as many have come as are asked for; nothing may come behind that.
func taken(t *testing.T, seq iter.Seq2[int, api.Entry], many int) []pair {
	t.Helper()
	var l []pair
	seq(func(v int, e api.Entry) bool {
		if len(l) >= many {
			t.Errorf("P15.3: %d are asked for, then comes %d", many, v)
		}
		l = append(l, pair{v, e})
		return len(l) < many
	})
	return l
}

// As long as more are asked for: it can be left behind each, gone through again, and within itself.
func TestGoneThrough(t *testing.T) {
	for _, n := range []int{1, 2, 5, 24} {
		d := dice(n)
		x, s := d.filled(t, d.order(n), 6, func() int { return 1 + d.below(99) })
		for v := range n {
			up, down := x.Up(v), x.Down(v)
			for _, c := range []struct {
				seq  iter.Seq2[int, api.Entry]
				want []pair
			}{{up, s.up(v)}, {down, s.down(v)}} {
				for many := 1; many <= len(c.want); many++ {
					if got := taken(t, c.seq, many); !slices.Equal(got, c.want[:many]) {
						t.Errorf("P15.3: %d of those of %d: %v, want %v", many, v, got, c.want[:many])
					}
				}
				if got := gone(c.seq); !slices.Equal(got, c.want) {
					t.Errorf("P15.3: those of %d again: %v, want %v", v, got, c.want)
				}
				for range c.seq {
					if got := gone(c.seq); !slices.Equal(got, c.want) {
						t.Errorf("P15.3: those of %d within themselves: %v, want %v", v, got, c.want)
					}
				}
			}
		}
		same(t, "gone through", x, s)
	}
}

// Written out by hand: entries, arcs, and the right entry from one vertex to another one.
func TestBestByHand(t *testing.T) {
	road := func(tail, head, weight int) api.Arc { return api.Arc{Tail: tail, Head: head, Weight: weight} }
	shut := func(tail, head, weight int) api.Arc {
		return api.Arc{Tail: tail, Head: head, Weight: weight, Closed: true}
	}
	// By rank: 2, 0, 3, 1.
	four := []int{1, 3, 0, 2}
	// From 3 to 1 it is 9 by way of 2, and 7 by way of 0; from 1 to 3 it is 4 by way of each.
	nine := []api.Link{
		link(3, 2, arc(4, 0)), link(2, 1, arc(5, 1)), link(3, 0, arc(6, 2)), link(0, 1, arc(1, 3)),
		link(1, 2, arc(1, 4)), link(2, 3, arc(3, 5)), link(1, 0, by(2, 2)), link(0, 3, by(2, 2)),
	}
	for i, c := range []struct {
		ranks []int
		links []api.Link
		arcs  map[int]api.Arc
		u, w  int
		want  api.Entry
	}{
		// Nothing, and an arc alone.
		{four, nil, nil, 0, 3, no},
		{four, nil, map[int]api.Arc{0: road(0, 3, 1)}, 0, 3, arc(1, 0)},
		{four, nil, map[int]api.Arc{63: road(0, 3, most)}, 0, 3, arc(most, 63)},
		{four, nil, map[int]api.Arc{63: road(0, 3, most)}, 3, 0, no},
		{[]int{0, 1}, nil, map[int]api.Arc{0: road(0, 1, 1), 1: road(1, 0, 2)}, 1, 0, arc(2, 1)},
		{[]int{0, 1}, nil, map[int]api.Arc{0: road(0, 0, 1), 1: road(1, 1, 2)}, 1, 0, no},
		{[]int{0}, nil, map[int]api.Arc{0: road(0, 0, 1)}, 0, 0, no},
		// The direct weight is less than each sum, as great as the least one, greater than that one, greater than both.
		{four, nine, map[int]api.Arc{8: road(3, 1, 6)}, 3, 1, arc(6, 8)},
		{four, nine, map[int]api.Arc{8: road(3, 1, 7)}, 3, 1, arc(7, 8)},
		{four, nine, map[int]api.Arc{8: road(3, 1, 8)}, 3, 1, by(7, 0)},
		{four, nine, map[int]api.Arc{8: road(3, 1, 10)}, 3, 1, by(7, 0)},
		{four, nine, map[int]api.Arc{8: road(1, 3, 4)}, 1, 3, arc(4, 8)},
		{four, nine, map[int]api.Arc{8: road(1, 3, 5)}, 1, 3, by(4, 2)},
		// No open arc: the least sum, and of like ones the one by the lowest vertex, not by that of the least number.
		{four, nine, nil, 3, 1, by(7, 0)},
		{four, nine, nil, 1, 3, by(4, 2)},
		{four, nine, map[int]api.Arc{8: shut(3, 1, 1)}, 3, 1, by(7, 0)},
		{four, nine, map[int]api.Arc{8: road(1, 3, 1)}, 3, 1, by(7, 0)},
		// Arcs beside others: the best one of those that are open.
		{four, nine, map[int]api.Arc{8: shut(3, 1, 1), 9: road(3, 1, 7), 10: road(3, 1, 7)}, 3, 1, arc(7, 9)},
		{four, nine, map[int]api.Arc{8: road(3, 1, 7), 9: road(3, 1, 6), 10: road(3, 1, 8)}, 3, 1, arc(6, 9)},
		{four, nine, map[int]api.Arc{8: road(3, 1, 9), 9: road(3, 1, 8)}, 3, 1, by(7, 0)},
		{four, nine, map[int]api.Arc{8: shut(3, 1, 1), 9: shut(3, 1, 2)}, 1, 3, by(4, 2)},
		// The entry itself that is there doesn't count.
		{four, []api.Link{link(3, 1, arc(1, 8))}, nil, 3, 1, no},
		{four, []api.Link{link(3, 1, by(1, 0))}, nil, 3, 1, no},
		{four, append(slices.Clone(nine), link(3, 1, arc(1, 8))), map[int]api.Arc{8: road(3, 1, 8)}, 3, 1, by(7, 0)},
		// Arcs to the middle and from it don't, either: entries alone.
		{four, nil, map[int]api.Arc{0: road(3, 2, 1), 1: road(2, 1, 1)}, 3, 1, no},
		{four, nine, map[int]api.Arc{0: road(3, 2, 1), 1: road(2, 1, 1)}, 3, 1, by(7, 0)},
		// One part alone is no sum, and what leads the other way isn't, either.
		{four, []api.Link{link(3, 2, arc(4, 0))}, nil, 3, 1, no},
		{four, []api.Link{link(2, 1, arc(4, 0))}, nil, 3, 1, no},
		{four, []api.Link{link(3, 2, arc(4, 0)), link(0, 1, arc(1, 3))}, nil, 3, 1, no},
		{four, []api.Link{link(2, 3, arc(4, 0)), link(1, 2, arc(1, 3))}, nil, 3, 1, no},
		{four, []api.Link{link(3, 2, arc(4, 0)), link(1, 2, arc(1, 3))}, nil, 3, 1, no},
		{four, []api.Link{link(3, 2, arc(4, 0)), link(1, 2, arc(1, 3))}, map[int]api.Arc{0: road(3, 1, 9)}, 3, 1, arc(9, 0)},
		// The middle is lower than one of both alone: 3 is lower than 1, not than 0; and higher than both.
		{four, []api.Link{link(0, 3, arc(1, 0)), link(3, 1, arc(1, 1))}, nil, 0, 1, no},
		{four, []api.Link{link(1, 3, arc(1, 0)), link(3, 0, arc(1, 1))}, nil, 1, 0, no},
		{four, []api.Link{link(0, 3, arc(1, 0)), link(3, 1, arc(1, 1)), link(0, 2, arc(5, 2)), link(2, 1, arc(5, 3))}, nil, 0, 1, by(10, 2)},
		{four, []api.Link{link(0, 3, arc(1, 0)), link(3, 1, arc(1, 1))}, map[int]api.Arc{0: road(0, 1, 9)}, 0, 1, arc(9, 0)},
		{four, []api.Link{link(2, 1, arc(1, 0)), link(1, 0, arc(1, 1))}, nil, 2, 0, no},
		{four, []api.Link{link(0, 1, arc(1, 0)), link(1, 3, arc(1, 1))}, nil, 0, 3, no},
		// One of both is the lowest one: no vertex is lower.
		{four, []api.Link{link(2, 0, arc(1, 0)), link(0, 3, arc(1, 1))}, map[int]api.Arc{0: road(2, 3, 9)}, 2, 3, arc(9, 0)},
		// By shortcuts, too, and of more than two parts no sum is made.
		{four, []api.Link{link(3, 2, arc(1, 0)), link(2, 0, arc(1, 1)), link(0, 1, arc(1, 2))}, nil, 3, 1, no},
		{four, []api.Link{link(3, 0, by(2, 2)), link(0, 1, by(3, 2))}, nil, 3, 1, by(5, 0)},
		// About Most, where sums stop.
		{four, []api.Link{link(3, 2, arc(most-1, 0)), link(2, 1, arc(1, 1))}, nil, 3, 1, by(most, 2)},
		{four, []api.Link{link(3, 2, arc(most-1, 0)), link(2, 1, arc(1, 1))}, map[int]api.Arc{0: road(3, 1, most)}, 3, 1, arc(most, 0)},
		{four, []api.Link{link(3, 2, arc(most-1, 0)), link(2, 1, arc(1, 1))}, map[int]api.Arc{0: road(3, 1, most-1)}, 3, 1, arc(most-1, 0)},
		{four, []api.Link{link(3, 2, arc(most, 0)), link(2, 1, arc(1, 1))}, nil, 3, 1, by(far, 2)},
		{four, []api.Link{link(3, 2, arc(most, 0)), link(2, 1, arc(most, 1))}, nil, 3, 1, by(far, 2)},
		{four, []api.Link{link(3, 2, arc(far, 0)), link(2, 1, arc(far, 1))}, nil, 3, 1, by(far, 2)},
		{four, []api.Link{link(3, 2, arc(far, 0)), link(2, 1, arc(1, 1))}, map[int]api.Arc{0: road(3, 1, most)}, 3, 1, arc(most, 0)},
		{four, []api.Link{link(3, 2, arc(far, 0))}, nil, 3, 1, no},
		// Of two sums at Far the one by the lowest vertex, however much more than Most they would be; one that is told is less.
		{four, []api.Link{link(3, 2, arc(far, 0)), link(2, 1, arc(far, 1)), link(3, 0, arc(most, 2)), link(0, 1, arc(1, 3))}, nil, 3, 1, by(far, 2)},
		{four, []api.Link{link(3, 2, arc(most, 0)), link(2, 1, arc(1, 1)), link(3, 0, arc(most-1, 2)), link(0, 1, arc(1, 3))}, nil, 3, 1, by(most, 0)},
		// Of three like sums the one by the lowest vertex: 5 of rank 0, not 0 of rank 1, not 1 of rank 2.
		{[]int{1, 2, 3, 4, 5, 0}, []api.Link{link(3, 0, arc(1, 0)), link(0, 4, arc(3, 1)), link(3, 1, arc(2, 2)), link(1, 4, arc(2, 3)), link(3, 5, arc(3, 4)), link(5, 4, arc(1, 5))}, nil, 3, 4, by(4, 5)},
		{[]int{1, 2, 3, 4, 5, 0}, []api.Link{link(3, 0, arc(1, 0)), link(0, 4, arc(3, 1)), link(3, 1, arc(2, 2)), link(1, 4, arc(2, 3)), link(3, 5, arc(3, 4)), link(5, 4, arc(2, 5))}, nil, 3, 4, by(4, 0)},
		{[]int{1, 2, 3, 4, 5, 0}, []api.Link{link(3, 0, arc(1, 0)), link(0, 4, arc(3, 1)), link(3, 1, arc(2, 2)), link(1, 4, arc(1, 3)), link(3, 5, arc(3, 4)), link(5, 4, arc(1, 5))}, nil, 3, 4, by(3, 1)},
		// The highest and the lowest of 24.
		{perm.Falling(24), []api.Link{link(0, 23, arc(1, 0)), link(23, 1, arc(1, 63))}, nil, 0, 1, by(2, 23)},
		{perm.Falling(24), []api.Link{link(0, 2, arc(1, 0)), link(2, 1, arc(1, 63))}, nil, 0, 1, by(2, 2)},
		{perm.Rising(24), []api.Link{link(0, 22, arc(1, 0)), link(22, 23, arc(1, 63))}, map[int]api.Arc{63: road(0, 23, 3)}, 0, 23, arc(3, 63)},
	} {
		x, s := made(t, c.ranks, c.links...)
		g := town(t, len(c.ranks), c.arcs)
		if got := x.Best(g, c.u, c.w); got != c.want {
			t.Errorf("P15.4: by hand %d: of %v: Best(%d, %d): %v, want %v", i, c.ranks, c.u, c.w, got, c.want)
		}
		best(t, fmt.Sprint("by hand ", i), x, s, g, c.arcs)
	}
}

// All orders of 4 vertices with entries of these weights, or without, from the third one by rank to the lower two, and from these to the highest one.
func TestAllSmallIndices(t *testing.T) {
	weights := []int{1, 2, most, far, noWay}
	entry := func(weight int) api.Entry {
		if weight == noWay {
			return no
		}
		return arc(weight, weight%64)
	}
	kinds := map[api.Entry]int{}
	for _, ranks := range orders(4) {
		whose, _ := perm.Inverse(ranks)
		a, b, u, w := whose[0], whose[1], whose[2], whose[3]
		graphs, roads := []*graph.Graph{town(t, 4, nil)}, []map[int]api.Arc{nil}
		for _, weight := range []int{1, 2, 3, 4, most} {
			arcs := map[int]api.Arc{9: {Tail: u, Head: w, Weight: weight}}
			graphs, roads = append(graphs, town(t, 4, arcs)), append(roads, arcs)
		}
		x, s := made(t, ranks)
		for number := range 625 {
			for i, ends := range [][2]int{{u, a}, {a, w}, {u, b}, {b, w}} {
				e := entry(weights[number%5])
				if i == 2 && e != no && number%2 == 0 {
					e = by(e.Weight, a)
				}
				number /= 5
				set(t, x, s, ends[0], ends[1], e)
			}
			for i, g := range graphs {
				got := x.Best(g, u, w)
				if want := s.right(roads[i], u, w); got != want {
					t.Fatalf("P15.4: of %v, %v, arcs %v: Best(%d, %d): %v, want %v", ranks, s.entries, roads[i], u, w, got, want)
				}
				got.Mid = slices.Index(whose, got.Mid)
				kinds[got]++
			}
		}
	}
	for _, e := range []api.Entry{no, arc(1, 9), arc(2, 9), arc(3, 9), arc(4, 9), arc(most, 9), by(2, 0), by(2, 1), by(3, 0), by(3, 1), by(far, 0), by(far, 1)} {
		if kinds[e] < 24 {
			t.Errorf("%v came %d times alone", e, kinds[e])
		}
	}
}

// Indices and graphs of each number of vertices that look like chance.
func TestManyIndices(t *testing.T) {
	d := dice(15)
	lengths := d.lengths()
	for n := 1; n <= 24; n++ {
		for round := range 12 {
			length := lengths[round%len(lengths)]
			ranks := [][]int{d.order(n), perm.Rising(n), d.order(n), perm.Falling(n), d.order(n), perm.Turned(n, d.below(n))}[d.below(6)]
			x, s := d.filled(t, ranks, 1+d.below(8), length)
			same(t, "many", x, s)
			for _, many := range []int{0, 1 + d.below(63)} {
				arcs := d.roads(n, min(many, 50), func() int { return min(length(), most) })
				best(t, "many", x, s, town(t, n, arcs), arcs)
			}
		}
	}
}

// Calls that look like chance, one behind the other, of an index and its copies.
func TestManyCalls(t *testing.T) {
	d := dice(51)
	lengths := d.lengths()
	for round := range 60 {
		n := []int{1, 2, 3, 4, 6, 24}[round%6]
		x, s := made(t, d.order(n))
		for i := range 150 {
			u, w := d.below(n+2)-1, d.below(n+2)-1
			length := lengths[d.below(len(lengths))]
			switch {
			case d.below(20) == 0:
				x, s = x.Copy(), s.copied()
			case !s.both(u, w):
				refused(t, x, u, w, []api.Entry{no, arc(length(), 1)}[d.below(2)])
			case d.below(6) == 0:
				set(t, x, s, u, w, no)
			case d.below(3) == 0:
				e := api.Entry{Weight: length(), Arc: d.below(4) - 2, Mid: d.below(n+2) - 2}
				if s.may(u, w, e) {
					set(t, x, s, u, w, e)
				} else {
					refused(t, x, u, w, e)
				}
			default:
				set(t, x, s, u, w, d.entry(s, u, w, length))
			}
			if n < 24 || i%30 == 29 {
				same(t, fmt.Sprintf("many calls %d, %d", round, i), x, s)
			}
		}
	}
}

// A copy is as the index was, and goes on by itself, either way.
func TestCopy(t *testing.T) {
	for _, n := range []int{2, 3, 24} {
		d := dice(n)
		x, s := d.filled(t, d.order(n), 5, func() int { return 1 + d.below(9) })
		change := func(x *Index, s *sheet, weight int) {
			for u := range n {
				for w := range n {
					if u != w {
						set(t, x, s, u, w, arc(weight+u, w))
					}
				}
			}
			set(t, x, s, 0, 1, no)
		}
		c, cs := x.Copy(), s.copied()
		same(t, "copy", c, cs)
		like(t, "copy", x, c, true)
		change(c, cs, 20)
		same(t, "the copy has changed: the copy", c, cs)
		same(t, "the copy has changed: the index", x, s)
		like(t, "the copy has changed", x, c, false)
		change(x, s, 50)
		same(t, "the index has changed: the index", x, s)
		same(t, "the index has changed: the copy", c, cs)
		other, os := c.Copy(), cs.copied()
		change(c, cs, 80)
		same(t, "the copy has changed again: its copy", other, os)
		same(t, "the copy has changed again: the index", x, s)
		change(other, os, 80)
		like(t, "the copy's copy has changed likewise", c, other, true)
		same(t, "a copy's copy has changed: the copy", c, cs)
	}
	x, s := made(t, []int{0})
	same(t, "the copy of one vertex", x.Copy(), s)
	like(t, "the copy of one vertex", x, x.Copy(), true)
}

// Written out by hand: two indices, and whether they are the same.
func TestSameByHand(t *testing.T) {
	few := []api.Link{link(0, 1, arc(2, 0)), link(1, 2, arc(3, 1)), link(0, 2, by(5, 1))}
	with := func(l api.Link) []api.Link { return append(slices.Clone(few), l) }
	back := slices.Clone(few)
	slices.Reverse(back)
	for i, c := range []struct {
		one, other []int
		links      []api.Link
		others     []api.Link
		want       bool
	}{
		{[]int{0}, []int{0}, nil, nil, true},
		{[]int{1, 0, 2}, []int{1, 0, 2}, few, few, true},
		// However they came to be.
		{[]int{1, 0, 2}, []int{1, 0, 2}, few, back, true},
		{[]int{1, 0, 2}, []int{1, 0, 2}, few, append(with(link(2, 0, arc(4, 3))), link(2, 0, no)), true},
		{[]int{1, 0, 2}, []int{1, 0, 2}, few, append([]api.Link{link(0, 1, arc(7, 9))}, few...), true},
		{[]int{1, 0, 2}, []int{1, 0, 2}, nil, []api.Link{few[0], link(0, 1, no)}, true},
		// The order alone.
		{[]int{0, 1}, []int{1, 0}, nil, nil, false},
		{[]int{1, 0, 2}, []int{0, 1, 2}, nil, nil, false},
		{[]int{0, 1, 2}, []int{0, 2, 1}, nil, nil, false},
		{[]int{1, 0, 2}, []int{2, 0, 1}, few, few, false},
		{[]int{0, 1}, []int{1, 0}, []api.Link{link(0, 1, arc(1, 1))}, []api.Link{link(0, 1, arc(1, 1))}, false},
		{[]int{0, 1}, []int{1, 0}, []api.Link{link(0, 1, arc(1, 1))}, []api.Link{link(1, 0, arc(1, 1))}, false},
		{[]int{0, 1}, []int{1, 0}, []api.Link{link(0, 1, arc(1, 1)), link(1, 0, arc(1, 1))}, []api.Link{link(0, 1, arc(1, 1)), link(1, 0, arc(1, 1))}, false},
		{perm.Rising(24), perm.Turned(24, 1), nil, nil, false},
		{perm.Rising(24), append(perm.Rising(22), 23, 22), nil, nil, false},
		// One entry alone: there and not there, its weight, its arc, its middle, its kind, its way.
		{[]int{1, 0, 2}, []int{1, 0, 2}, few, few[:2], false},
		{[]int{1, 0, 2}, []int{1, 0, 2}, few, few[1:], false},
		{[]int{1, 0, 2}, []int{1, 0, 2}, few, with(link(2, 1, arc(1, 0))), false},
		{[]int{1, 0, 2}, []int{1, 0, 2}, few, with(link(0, 1, arc(3, 0))), false},
		{[]int{1, 0, 2}, []int{1, 0, 2}, few, with(link(0, 1, arc(2, 1))), false},
		{[]int{1, 0, 2}, []int{1, 0, 2}, few, with(link(0, 2, arc(5, 1))), false},
		{[]int{1, 0, 2}, []int{1, 0, 2}, few, with(link(0, 2, by(far, 1))), false},
		{[]int{1, 0, 2}, []int{1, 0, 2}, few[2:], []api.Link{link(2, 0, by(5, 1))}, false},
		{[]int{0, 1, 2, 3}, []int{0, 1, 2, 3}, []api.Link{link(2, 3, by(5, 0))}, []api.Link{link(2, 3, by(5, 1))}, false},
		{[]int{0, 1}, []int{0, 1}, []api.Link{link(0, 1, arc(1, 1))}, []api.Link{link(1, 0, arc(1, 1))}, false},
		{perm.Rising(24), perm.Rising(24), []api.Link{link(22, 23, arc(1, 0))}, nil, false},
		{perm.Rising(24), perm.Rising(24), nil, []api.Link{link(23, 22, arc(1, 0))}, false},
		// How many vertices they have.
		{[]int{0}, []int{0, 1}, nil, nil, false},
		{[]int{0}, []int{1, 0}, nil, nil, false},
		{[]int{0, 1}, []int{0, 1, 2}, nil, nil, false},
		{[]int{1, 0, 2}, []int{1, 0, 2, 3}, few, few, false},
		{perm.Rising(23), perm.Rising(24), nil, nil, false},
	} {
		x, _ := made(t, c.one, c.links...)
		y, _ := made(t, c.other, c.others...)
		like(t, fmt.Sprint("by hand ", i), x, y, c.want)
		like(t, fmt.Sprint("by hand ", i, ": itself"), x, x, true)
	}
}

// Same is so just if all that two indices tell is: indices of all orders of 3 vertices with up to two entries.
func TestSameAsTold(t *testing.T) {
	var all []*Index
	var told []string
	for _, ranks := range orders(3) {
		for number := range 49 {
			x, s := made(t, ranks)
			for _, at := range []int{number % 7, number / 7} {
				if ends := [][2]int{{0, 1}, {1, 0}, {0, 2}, {2, 0}, {1, 2}, {2, 1}}; at < 6 {
					set(t, x, s, ends[at][0], ends[at][1], arc(1, 0))
				}
			}
			all = append(all, x)
			told = append(told, fmt.Sprint(ranks, x.Links()))
		}
	}
	for i, x := range all {
		for j, y := range all {
			if got := x.Same(y); got != (told[i] == told[j]) {
				t.Fatalf("P15.4: %s and %s: Same: %v", told[i], told[j], got)
			}
		}
	}
}

// What is answered can be written into without changing what is answered later, or what another answer was.
func TestAnswersAreOwn(t *testing.T) {
	x, s := made(t, []int{1, 0, 2, 3}, link(0, 1, arc(2, 0)), link(1, 2, arc(3, 1)), link(0, 2, by(5, 1)), link(2, 3, by(6, 0)))
	for _, ask := range []func() []api.Link{x.Links, x.Shortcuts} {
		first, second := ask(), ask()
		was := slices.Clone(second)
		for i := range first {
			first[i] = link(9, 9, arc(9, 9))
		}
		_ = append(first, link(8, 8, arc(8, 8)))
		_ = append(first[:1], link(7, 7, arc(7, 7)))
		if !slices.Equal(second, was) || !slices.Equal(ask(), was) {
			t.Errorf("P15.3: one answer is written over, the other one is %v, then comes %v, want %v", second, ask(), was)
		}
		same(t, "an answer is written over", x, s)
	}
	links, shortcuts := x.Links(), x.Shortcuts()
	was, few := slices.Clone(links), slices.Clone(shortcuts)
	set(t, x, s, 0, 2, no)
	set(t, x, s, 0, 1, arc(7, 7))
	if !slices.Equal(links, was) || !slices.Equal(shortcuts, few) {
		t.Errorf("P15.3: the index has changed, answers ahead of that are %v and %v", links, shortcuts)
	}
}

// Nothing that is asked changes the index, or the other one, or the graph.
func TestIndexStays(t *testing.T) {
	d := dice(3)
	x, s := d.filled(t, d.order(24), 5, func() int { return 1 + d.below(9) })
	y := x.Copy()
	arcs := d.roads(24, 40, func() int { return 1 + d.below(9) })
	g := town(t, 24, arcs)
	was, before := *x, *g
	for v := range 24 {
		gone(x.Up(v))
		gone(x.Down(v))
		x.Rank(v)
		x.By(v)
		x.Low(v, 23-v)
		x.At(v, 23-v)
		x.Best(g, v, 23-v)
		x.Copy().Set(v, 23-v, arc(1, 1))
	}
	x.Vertices()
	x.Links()
	x.Shortcuts()
	x.Same(y)
	if *x != was || *y != was || *g != before {
		t.Errorf("P15.4: the index is as it was: %v, the other one: %v, the graph: %v", *x == was, *y == was, *g == before)
	}
	same(t, "asked", x, s)
}

// The right entries by the index as it is then: an entry, or an arc, that changes tells in the next answer.
func TestBestFollows(t *testing.T) {
	x, s := made(t, []int{1, 0, 2}, link(0, 1, arc(2, 0)), link(1, 2, arc(3, 1)))
	g := town(t, 3, map[int]api.Arc{9: {Tail: 0, Head: 2, Weight: 6}})
	for i, c := range []struct {
		change func()
		want   api.Entry
	}{
		{func() {}, by(5, 1)},
		{func() { set(t, x, s, 1, 2, arc(4, 1)) }, arc(6, 9)},
		{func() { g.Weigh(9, 7) }, by(6, 1)},
		{func() { set(t, x, s, 0, 2, by(6, 1)) }, by(6, 1)},
		{func() { set(t, x, s, 0, 1, no) }, arc(7, 9)},
		{func() { g.Close(9) }, no},
		{func() { set(t, x, s, 0, 1, arc(far, 0)) }, by(far, 1)},
		{func() { g.Reopen(9) }, arc(7, 9)},
		{func() { g.Delete(9) }, by(far, 1)},
		{func() { set(t, x, s, 1, 2, no) }, no},
	} {
		c.change()
		if got := x.Best(g, 0, 2); got != c.want {
			t.Errorf("P15.4: changes %d: Best(0, 2): %v, want %v", i, got, c.want)
		}
		same(t, fmt.Sprint("changes ", i), x, s)
	}
}
