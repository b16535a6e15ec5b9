package near

import (
	"fmt"
	"math"
	"slices"
	"testing"

	"ringroad/api"
	"ringroad/graph"
	"ringroad/walk"
)

// noVertices are numbers of no vertex of n, though some look like one by their last bits.
func noVertices(n int) []int {
	return []int{
		math.MinInt, math.MinInt + 1, math.MinInt32, -1 << 32, -256, -64, -n, -2, -1,
		n, n + 1, n + 24, n + 64, n + 256, math.MaxInt32, 1 << 32, 1<<32 + n - 1, math.MaxInt - 1, math.MaxInt,
	}
}

// town is arcs by their numbers.
type town map[int]api.Arc

// open, closed: an arc.
func open(tail, head, weight int) api.Arc {
	return api.Arc{Tail: tail, Head: head, Weight: weight}
}

func closed(tail, head, weight int) api.Arc {
	return api.Arc{Tail: tail, Head: head, Weight: weight, Closed: true}
}

// made: a graph of n vertices with these arcs, all of which may be.
func made(t *testing.T, n int, r town) *graph.Graph {
	t.Helper()
	g, code := graph.New(n, 64)
	if g == nil || code != api.OK {
		t.Fatalf("P8.1: New(%d, 64): %v, %d", n, g, code)
	}
	for id, a := range r {
		if code := g.Insert(id, a); code != api.OK {
			t.Fatalf("P8.1: Insert(%d, %v): %d", id, a, code)
		}
	}
	return g
}

// What the tests' own form counts with, beyond what is told: what is longer than all that is told stays at that.
const (
	tooFar = uint64(1)<<62 + 1
	noWay  = uint64(1)<<62 + 2
)

// plus: one arc more; a walk that there isn't has none behind it.
func plus(sum uint64, weight int) uint64 {
	if sum == noWay {
		return noWay
	}
	return min(sum+uint64(weight), tooFar)
}

// wantFar: the least sums, from each vertex to each, of walks of at most as many arcs as there are vertices: each round one arc more, whatever comes next. It is the tests' own form, without a heap.
func (r town) wantFar(n int) [][]uint64 {
	all := make([][]uint64, n)
	for s := range all {
		far := slices.Repeat([]uint64{noWay}, n)
		far[s] = 0
		for range n {
			for _, a := range r {
				if !a.Closed {
					far[a.Head] = min(far[a.Head], plus(far[a.Tail], a.Weight))
				}
			}
		}
		all[s] = far
	}
	return all
}

// wantTree: the tree of s, vertex by vertex, as the chapter tells it.
func (r town) wantTree(far []uint64, s int) []int {
	tree := make([]int, len(far))
	for v := range tree {
		tree[v] = -1
		for id := 63; id >= 0 && v != s && far[v] < tooFar; id-- {
			a, there := r[id]
			if there && !a.Closed && a.Head == v && plus(far[a.Tail], a.Weight) == far[v] {
				tree[v] = id
			}
		}
	}
	return tree
}

// wantPath: the walk that a tree tells, its last arc last.
func (r town) wantPath(tree []int, t int) []int {
	if tree[t] == -1 {
		return nil
	}
	return append(r.wantPath(tree, r[tree[t]].Tail), tree[t])
}

// same: do all four calls answer what the tests' own form does, from each vertex and to each?
func same(t *testing.T, g *graph.Graph, r town, n int) {
	t.Helper()
	far := r.wantFar(n)
	for s := range n {
		from, to := make([]int, n), make([]int, n)
		for v := range n {
			from[v], to[v] = int(far[s][v]), int(far[v][s])
		}
		if got, code := From(g, s); !slices.Equal(got, from) || code != api.OK {
			t.Fatalf("P10.1: %v: From(%d): %v, %d, want %v", r, s, got, code, from)
		}
		if got, code := To(g, s); !slices.Equal(got, to) || code != api.OK {
			t.Fatalf("P10.1: %v: To(%d): %v, %d, want %v", r, s, got, code, to)
		}
		tree := r.wantTree(far[s], s)
		if got, code := Tree(g, s); !slices.Equal(got, tree) || code != api.OK {
			t.Fatalf("P10.1: %v: Tree(%d): %v, %d, want %v", r, s, got, code, tree)
		}
		for v := range n {
			r.samePath(t, g, s, v, far[s][v], tree)
		}
	}
}

// samePath: does Path answer what the chapter asks, and what follows from it?
func (r town) samePath(t *testing.T, g *graph.Graph, s, v int, far uint64, tree []int) {
	t.Helper()
	ids, d, code := Path(g, s, v)
	if far >= tooFar {
		want := api.Long
		if far == noWay {
			want = api.NotFound
		}
		if len(ids) != 0 || d != 0 || code != want {
			t.Fatalf("P10.2: %v: Path(%d, %d): %v, %d, %d, want %d", r, s, v, ids, d, code, want)
		}
		return
	}
	if want := r.wantPath(tree, v); !slices.Equal(ids, want) || d != int(far) || code != api.OK {
		t.Fatalf("P10.2: %v: Path(%d, %d): %v, %d, %d, want %v, %d", r, s, v, ids, d, code, want, far)
	}
	if code := walk.Check(g, s, v, ids); code != api.OK {
		t.Fatalf("P10.2: %v: Path(%d, %d): %v is no walk: %d", r, s, v, ids, code)
	}
	if !walk.Simple(g, s, ids) || walk.Sum(g, ids) != d {
		t.Fatalf("P10.3: %v: Path(%d, %d): %v, %d, but simple %v, sum %d", r, s, v, ids, d, walk.Simple(g, s, ids), walk.Sum(g, ids))
	}
}

// dice are numbers that look like chance and are the same each time.
type dice uint64

func (d *dice) next() uint64 {
	*d = *d*6364136223846793005 + 1442695040888963407
	return uint64(*d>>32) | uint64(*d<<32)
}

func (d *dice) below(n int) int { return int(d.next() % uint64(n)) }

func TestExample(t *testing.T) {
	g := made(t, 3, town{0: open(0, 1, 5), 1: open(1, 2, 5), 2: open(0, 2, 11)})
	if l, code := From(g, 0); !slices.Equal(l, []int{0, 5, 10}) || code != api.OK {
		t.Errorf("P10.1: From(0): %v, %d", l, code)
	}
	if l, code := To(g, 2); !slices.Equal(l, []int{10, 5, 0}) || code != api.OK {
		t.Errorf("P10.1: To(2): %v, %d", l, code)
	}
	if l, code := Tree(g, 0); !slices.Equal(l, []int{-1, 0, 1}) || code != api.OK {
		t.Errorf("P10.1: Tree(0): %v, %d", l, code)
	}
	if l, d, code := Path(g, 0, 2); !slices.Equal(l, []int{0, 1}) || d != 10 || code != api.OK {
		t.Errorf("P10.2: Path(0, 2): %v, %d, %d", l, d, code)
	}
}

// One way is not the other: From and To, written out by hand, with what the tree and the paths are.
func TestByHand(t *testing.T) {
	const none, far, most = api.None, api.Far, api.Most
	for i, c := range []struct {
		n    int
		r    town
		s    int
		from []int
		to   []int
		tree []int
	}{
		// No arcs.
		{1, nil, 0, []int{0}, []int{0}, []int{-1}},
		{3, nil, 1, []int{none, 0, none}, []int{none, 0, none}, []int{-1, -1, -1}},
		// One arc, at the first place and at the last one.
		{2, town{0: open(0, 1, 7)}, 0, []int{0, 7}, []int{0, none}, []int{-1, 0}},
		{2, town{63: open(0, 1, 7)}, 1, []int{none, 0}, []int{7, 0}, []int{-1, -1}},
		{2, town{63: open(1, 0, 7)}, 1, []int{7, 0}, []int{none, 0}, []int{63, -1}},
		// An arc from a vertex to itself leads nowhere.
		{1, town{0: open(0, 0, 1)}, 0, []int{0}, []int{0}, []int{-1}},
		{2, town{0: open(0, 0, 1), 1: open(0, 1, 2), 2: open(1, 1, 1)}, 0, []int{0, 2}, []int{0, none}, []int{-1, 1}},
		// Nor does a way round back to where it began.
		{2, town{0: open(0, 1, 1), 1: open(1, 0, 1)}, 0, []int{0, 1}, []int{0, 1}, []int{-1, 0}},
		// Several arcs from one vertex to another one: the shortest, and of like ones the least number.
		{2, town{3: open(0, 1, 5), 4: open(0, 1, 4), 9: open(0, 1, 4)}, 0, []int{0, 4}, []int{0, none}, []int{-1, 4}},
		{2, town{0: open(0, 1, 5), 1: open(0, 1, 6), 63: open(0, 1, 4)}, 0, []int{0, 4}, []int{0, none}, []int{-1, 63}},
		{2, town{0: open(0, 1, 4), 1: open(0, 1, 3), 63: open(0, 1, 3)}, 0, []int{0, 3}, []int{0, none}, []int{-1, 1}},
		// A closed arc is as none.
		{2, town{0: closed(0, 1, 4), 1: open(0, 1, 5)}, 0, []int{0, 5}, []int{0, none}, []int{-1, 1}},
		{2, town{0: closed(0, 1, 4)}, 0, []int{0, none}, []int{0, none}, []int{-1, -1}},
		{2, town{0: closed(0, 1, 4)}, 1, []int{none, 0}, []int{none, 0}, []int{-1, -1}},
		{2, town{0: closed(0, 1, 4), 1: open(0, 1, 4)}, 0, []int{0, 4}, []int{0, none}, []int{-1, 1}},
		// Walks of two and three arcs, that are shorter than one.
		{4, town{0: open(0, 3, 10), 1: open(0, 1, 3), 2: open(1, 2, 3), 3: open(2, 3, 3)}, 0, []int{0, 3, 6, 9}, []int{0, none, none, none}, []int{-1, 1, 2, 3}},
		{4, town{0: open(0, 3, 10), 1: open(0, 1, 3), 2: open(1, 2, 3), 3: open(2, 3, 3)}, 3, []int{none, none, none, 0}, []int{9, 6, 3, 0}, []int{-1, -1, -1, -1}},
		// One arc and two arcs that are as long: the least number into the end, wherever it comes from.
		{3, town{2: open(0, 2, 6), 3: open(0, 1, 3), 4: open(1, 2, 3)}, 0, []int{0, 3, 6}, []int{0, none, none}, []int{-1, 3, 2}},
		{3, town{2: open(1, 2, 3), 3: open(0, 1, 3), 4: open(0, 2, 6)}, 0, []int{0, 3, 6}, []int{0, none, none}, []int{-1, 3, 2}},
		// A vertex that comes to less behind another one: 2 by way of 1, though it was reached ahead.
		{4, town{0: open(0, 2, 9), 1: open(0, 1, 1), 2: open(1, 2, 1), 3: open(2, 3, 1)}, 0, []int{0, 1, 2, 3}, []int{0, none, none, none}, []int{-1, 1, 2, 3}},
		// Just Most, and above it.
		{2, town{5: open(0, 1, most)}, 0, []int{0, most}, []int{0, none}, []int{-1, 5}},
		{3, town{5: open(0, 1, most-1), 6: open(1, 2, 1)}, 0, []int{0, most - 1, most}, []int{0, none, none}, []int{-1, 5, 6}},
		{3, town{5: open(0, 1, most-1), 6: open(1, 2, 2)}, 0, []int{0, most - 1, far}, []int{0, none, none}, []int{-1, 5, -1}},
		{3, town{5: open(0, 1, most), 6: open(1, 2, 1)}, 2, []int{none, none, 0}, []int{far, 1, 0}, []int{-1, -1, -1}},
		{3, town{5: open(0, 1, most), 6: open(1, 2, most)}, 0, []int{0, most, far}, []int{0, none, none}, []int{-1, 5, -1}},
		// Behind one at Far: Far, too, and further ones, and round.
		{5, town{0: open(0, 1, most), 1: open(1, 2, 1), 2: open(2, 3, most), 3: open(3, 2, 1)}, 0, []int{0, most, far, far, none}, []int{0, none, none, none, none}, []int{-1, 0, -1, -1, -1}},
		{5, town{0: open(0, 1, most), 1: open(1, 2, 1), 2: open(2, 3, most), 3: open(3, 2, 1)}, 3, []int{none, none, 1, 0, none}, []int{far, far, most, 0, none}, []int{-1, -1, 3, -1, -1}},
		// An arc out of a vertex at Far that is told itself isn't in the tree.
		{4, town{0: open(0, 1, most), 1: open(1, 2, 1), 2: open(2, 3, 1), 3: open(0, 3, most)}, 0, []int{0, most, far, most}, []int{0, none, none, none}, []int{-1, 0, -1, 3}},
		// Far by few arcs, told by more.
		{4, town{0: open(0, 1, most), 1: open(1, 3, 1), 2: open(0, 2, 1), 3: open(2, 3, most-1)}, 0, []int{0, most, 1, most}, []int{0, none, none, none}, []int{-1, 0, 2, 3}},
		// An arc out of a vertex to which there is no walk.
		{3, town{0: open(1, 2, 1), 1: open(0, 2, 5)}, 0, []int{0, none, 5}, []int{0, none, none}, []int{-1, -1, 1}},
	} {
		g := made(t, c.n, c.r)
		if l, code := From(g, c.s); !slices.Equal(l, c.from) || code != api.OK {
			t.Errorf("P10.1: %d: From(%d): %v, %d, want %v", i, c.s, l, code, c.from)
		}
		if l, code := To(g, c.s); !slices.Equal(l, c.to) || code != api.OK {
			t.Errorf("P10.1: %d: To(%d): %v, %d, want %v", i, c.s, l, code, c.to)
		}
		if l, code := Tree(g, c.s); !slices.Equal(l, c.tree) || code != api.OK {
			t.Errorf("P10.1: %d: Tree(%d): %v, %d, want %v", i, c.s, l, code, c.tree)
		}
		same(t, g, c.r, c.n)
	}
}

// Paths, written out by hand.
func TestPaths(t *testing.T) {
	g := made(t, 8, town{
		0: open(0, 1, 2), 63: open(1, 2, 2), 2: open(0, 2, 4), 3: open(2, 3, 1), 4: open(2, 3, 1), 5: open(3, 7, 6),
		6: open(3, 4, 2), 7: open(4, 7, 4), 8: closed(0, 7, 1), 9: open(7, 0, api.Most-10), 10: open(5, 0, 1), 11: open(4, 4, 1),
	})
	for _, c := range []struct {
		s, t int
		ids  []int
		d    int
		code api.Code
	}{
		{0, 0, nil, 0, api.OK},
		{7, 7, nil, 0, api.OK},
		{6, 6, nil, 0, api.OK},
		{0, 1, []int{0}, 2, api.OK},
		{1, 2, []int{63}, 2, api.OK},
		{0, 2, []int{2}, 4, api.OK},
		{0, 3, []int{2, 3}, 5, api.OK},
		{1, 3, []int{63, 3}, 3, api.OK},
		{0, 4, []int{2, 3, 6}, 7, api.OK},
		{0, 7, []int{2, 3, 5}, 11, api.OK},
		{5, 7, []int{10, 2, 3, 5}, 12, api.OK},
		{7, 0, []int{9}, api.Most - 10, api.OK},
		{4, 0, []int{7, 9}, api.Most - 6, api.OK},
		{2, 0, []int{3, 5, 9}, api.Most - 3, api.OK},
		{1, 0, []int{63, 3, 5, 9}, api.Most - 1, api.OK},
		{7, 4, []int{9, 2, 3, 6}, api.Most - 3, api.OK},
		{2, 1, []int{3, 5, 9, 0}, api.Most - 1, api.OK},
		{0, 5, nil, 0, api.NotFound},
		{0, 6, nil, 0, api.NotFound},
		{6, 0, nil, 0, api.NotFound},
		{6, 5, nil, 0, api.NotFound},
	} {
		ids, d, code := Path(g, c.s, c.t)
		if !slices.Equal(ids, c.ids) || d != c.d || code != c.code {
			t.Errorf("P10.2: Path(%d, %d): %v, %d, %d, want %v, %d, %d", c.s, c.t, ids, d, code, c.ids, c.d, c.code)
		}
	}
	g.Weigh(63, 4)
	if ids, d, code := Path(g, 1, 0); len(ids) != 0 || d != 0 || code != api.Long {
		t.Errorf("P10.2: Path(1, 0), above Most: %v, %d, %d", ids, d, code)
	}
}

// Numbers of no vertex: of Path the one, the other one, and both; Arg comes ahead of NotFound and Long.
func TestNoVertex(t *testing.T) {
	for _, n := range []int{1, 2, 3, 23, 24} {
		last := n - 1
		for _, r := range []town{nil, {0: open(0, last, 1), 63: open(last, 0, 1)}, {0: open(0, n/2, api.Most), 1: open(n/2, last, api.Most), 2: closed(0, 0, 1)}} {
			g := made(t, n, r)
			for _, v := range noVertices(n) {
				for what, call := range map[string]func(*graph.Graph, int) ([]int, api.Code){"From": From, "To": To, "Tree": Tree} {
					if l, code := call(g, v); len(l) != 0 || code != api.Arg {
						t.Errorf("P10.1: n %d: %s(%d): %v, %d", n, what, v, l, code)
					}
				}
				for _, pair := range [][2]int{{v, 0}, {v, last}, {0, v}, {last, v}, {v, v}, {-1, v}, {v, n}} {
					if ids, d, code := Path(g, pair[0], pair[1]); len(ids) != 0 || d != 0 || code != api.Arg {
						t.Errorf("P10.2: n %d: Path(%v): %v, %d, %d", n, pair, ids, d, code)
					}
				}
			}
		}
	}
}

// From each vertex to itself it is 0, by no arc, whatever arcs there are; without arcs there is no walk to another one.
func TestItself(t *testing.T) {
	for n := 1; n <= 24; n++ {
		stay := town{}
		for v := range n {
			stay[v], stay[63-v] = open(v, v, 1), closed(v, (v+1)%n, 1)
		}
		for _, r := range []town{nil, stay} {
			g := made(t, n, r)
			for s := range n {
				want := slices.Repeat([]int{api.None}, n)
				want[s] = 0
				if l, code := From(g, s); !slices.Equal(l, want) || code != api.OK {
					t.Fatalf("P10.1: n %d: From(%d): %v, %d", n, s, l, code)
				}
				if l, code := To(g, s); !slices.Equal(l, want) || code != api.OK {
					t.Fatalf("P10.1: n %d: To(%d): %v, %d", n, s, l, code)
				}
				if l, code := Tree(g, s); !slices.Equal(l, slices.Repeat([]int{-1}, n)) || code != api.OK {
					t.Fatalf("P10.1: n %d: Tree(%d): %v, %d", n, s, l, code)
				}
				if ids, d, code := Path(g, s, s); len(ids) != 0 || d != 0 || code != api.OK {
					t.Fatalf("P10.2: n %d: Path(%d, %d): %v, %d, %d", n, s, s, ids, d, code)
				}
			}
		}
	}
}

// A round by all vertices, of each number of them, forwards and back, its arcs at the first places and at the last ones.
func TestRounds(t *testing.T) {
	for n := 1; n <= 24; n++ {
		for _, step := range []int{1, n - 1} {
			for _, weight := range []int{1, api.Most / 8, api.Most} {
				low, high := town{}, town{}
				for v := range n {
					low[v], high[63-v] = open(v, (v+step)%n, weight), open(v, (v+step)%n, weight)
				}
				same(t, made(t, n, low), low, n)
				same(t, made(t, n, high), high, n)
			}
		}
	}
}

// Of several arcs that would do the one of the least number, at whichever places they lie, from one vertex and from several.
func TestLeastNumber(t *testing.T) {
	for one := range 64 {
		for other := range 64 {
			if one == other {
				continue
			}
			g := made(t, 24, town{one: open(0, 23, 8), other: open(0, 23, 8)})
			if l, code := Tree(g, 0); l[23] != min(one, other) || code != api.OK {
				t.Fatalf("P10.1: arcs %d and %d: Tree(0): %v, %d", one, other, l, code)
			}
			if ids, d, code := Path(g, 0, 23); !slices.Equal(ids, []int{min(one, other)}) || d != 8 || code != api.OK {
				t.Fatalf("P10.2: arcs %d and %d: Path(0, 23): %v, %d, %d", one, other, ids, d, code)
			}
		}
	}
	// Into 5 five arcs lead that would do; one by one, the least is closed.
	r := town{0: open(0, 1, 1), 1: open(0, 2, 2), 2: open(0, 3, 3), 3: open(0, 4, 4), 20: open(3, 5, 2), 21: open(1, 5, 4), 30: open(4, 5, 1), 31: open(2, 5, 3), 63: open(0, 5, 5)}
	g := made(t, 6, r)
	for _, c := range []struct {
		shut int
		ids  []int
	}{{20, []int{2, 20}}, {21, []int{0, 21}}, {30, []int{3, 30}}, {31, []int{1, 31}}, {63, []int{63}}} {
		if ids, d, code := Path(g, 0, 5); !slices.Equal(ids, c.ids) || d != 5 || code != api.OK {
			t.Errorf("P10.2: Path(0, 5): %v, %d, %d, want %v", ids, d, code, c.ids)
		}
		g.Close(c.shut)
	}
	if _, _, code := Path(g, 0, 5); code != api.NotFound {
		t.Errorf("P10.2: Path(0, 5), all closed: %d", code)
	}
}

// All graphs of 3 vertices with up to 3 arcs of each kind: where from and where to, long or short, open or closed.
func TestAllSmallGraphs(t *testing.T) {
	kinds := []api.Arc{{}}
	for tail := range 3 {
		for head := range 3 {
			kinds = append(kinds, open(tail, head, 1), open(tail, head, api.Most), closed(tail, head, 1))
		}
	}
	for _, a := range kinds {
		for _, b := range kinds {
			for _, c := range kinds {
				r := town{}
				for id, arc := range map[int]api.Arc{0: a, 31: b, 63: c} {
					if arc.Weight > 0 {
						r[id] = arc
					}
				}
				same(t, made(t, 3, r), r, 3)
			}
		}
	}
}

// Graphs that look like chance, of each number of vertices, with few arcs and with many, with weights that are often alike, that come to just about Most, and that are of all sizes.
func TestManyGraphs(t *testing.T) {
	d := dice(31)
	weights := []func() int{
		func() int { return 1 + d.below(3) },
		func() int { return 1 + d.below(1000) },
		func() int { return api.Most/4 - 1 + d.below(3) },
		func() int { return api.Most - d.below(3) },
		func() int { return 1 + int(d.next()>>(2+d.below(60))) },
	}
	met := map[string]int{}
	for n := 1; n <= 24; n++ {
		for round := range 40 {
			weight, r := weights[round%len(weights)], town{}
			for id := range 64 {
				if d.below(8) <= round/len(weights) {
					r[id] = api.Arc{Tail: d.below(n), Head: d.below(n), Weight: weight(), Closed: d.below(6) == 0}
				}
			}
			g := made(t, n, r)
			same(t, g, r, n)
			for s := range n {
				ids, _, code := Path(g, s, d.below(n))
				met[fmt.Sprint("code ", code)]++
				met[fmt.Sprint("arcs ", min(len(ids), 4))]++
			}
		}
	}
	for _, what := range []string{"code 0", "code 3", "code 9", "arcs 1", "arcs 2", "arcs 3", "arcs 4"} {
		if met[what] < 200 {
			t.Errorf("%s came %d times alone", what, met[what])
		}
	}
}

// From one vertex to another one it is never farther than by way of a third one; From and To tell the same.
func TestByWayOfThird(t *testing.T) {
	d := dice(10)
	for _, n := range []int{3, 8, 24} {
		for range 20 {
			r := town{}
			for id := range 64 {
				r[id] = api.Arc{Tail: d.below(n), Head: d.below(n), Weight: 1 + int(d.next()>>(2+d.below(60))), Closed: d.below(6) == 0}
			}
			g := made(t, n, r)
			var from, to [][]int
			for v := range n {
				f, _ := From(g, v)
				b, _ := To(g, v)
				from, to = append(from, f), append(to, b)
			}
			for a := range n {
				for b := range n {
					if from[a][b] != to[b][a] {
						t.Fatalf("P10.1: %v: from %d to %d: %d, %d", r, a, b, from[a][b], to[b][a])
					}
					for c := range n {
						x, y := from[a][c], from[c][b]
						if max(x, y) < api.None && uint64(from[a][b]) > min(uint64(x)+uint64(y), tooFar) {
							t.Fatalf("P10.3: %v: from %d to %d: %d; by way of %d: %d and %d", r, a, b, from[a][b], c, x, y)
						}
					}
				}
			}
		}
	}
}

// What is told is of the graph as it is then.
func TestGraphChanges(t *testing.T) {
	g := made(t, 3, town{0: open(0, 1, 1), 1: open(1, 2, 5), 2: open(0, 2, 9)})
	for i, c := range []struct {
		change func() api.Code
		from   []int
		tree   []int
	}{
		{func() api.Code { return g.Weigh(0, 4) }, []int{0, 4, 9}, []int{-1, 0, 1}},
		{func() api.Code { return g.Weigh(0, 5) }, []int{0, 5, 9}, []int{-1, 0, 2}},
		{func() api.Code { return g.Close(2) }, []int{0, 5, 10}, []int{-1, 0, 1}},
		{func() api.Code { return g.Weigh(1, api.Most-5) }, []int{0, 5, api.Most}, []int{-1, 0, 1}},
		{func() api.Code { return g.Weigh(1, api.Most-4) }, []int{0, 5, api.Far}, []int{-1, 0, -1}},
		{func() api.Code { return g.Delete(0) }, []int{0, api.None, api.None}, []int{-1, -1, -1}},
		{func() api.Code { return g.Reopen(2) }, []int{0, api.None, 9}, []int{-1, -1, 2}},
		{func() api.Code { return g.Insert(0, open(2, 1, 2)) }, []int{0, 11, 9}, []int{-1, 0, 2}},
	} {
		if code := c.change(); code != api.OK {
			t.Fatalf("P8.2: change %d: %d", i, code)
		}
		if l, code := From(g, 0); !slices.Equal(l, c.from) || code != api.OK {
			t.Errorf("P10.1: change %d: From(0): %v, %d, want %v", i, l, code, c.from)
		}
		if l, code := Tree(g, 0); !slices.Equal(l, c.tree) || code != api.OK {
			t.Errorf("P10.1: change %d: Tree(0): %v, %d, want %v", i, l, code, c.tree)
		}
	}
}

// The graph stays as it is, whatever is asked.
func TestGraphStays(t *testing.T) {
	r := town{0: open(0, 1, 2), 1: open(0, 1, 2), 2: open(1, 2, api.Most), 3: open(2, 3, 1), 31: closed(0, 3, 1), 62: open(3, 3, 4), 63: open(3, 0, 5)}
	g := made(t, 5, r)
	was := *g
	for s := -1; s <= 5; s++ {
		From(g, s)
		To(g, s)
		Tree(g, s)
		for v := -1; v <= 5; v++ {
			Path(g, s, v)
		}
	}
	if *g != was || g.Len() != len(r) || g.Vertices() != 5 {
		t.Errorf("P10.1, P10.2: the graph: %v, was %v", *g, was)
	}
	for id, want := range r {
		if a, ok := g.Arc(id); a != want || !ok {
			t.Errorf("P10.1, P10.2: the graph: arc %d: %v, %v, want %v", id, a, ok, want)
		}
	}
}

// What is answered can be written into without changing what is answered later, or what another answer was.
func TestAnswersAreOwn(t *testing.T) {
	r := town{0: open(0, 1, 2), 5: open(1, 2, 3), 63: open(2, 3, 4)}
	g := made(t, 4, r)
	calls := map[string]func() []int{
		"From": func() []int { l, _ := From(g, 0); return l },
		"To":   func() []int { l, _ := To(g, 3); return l },
		"Tree": func() []int { l, _ := Tree(g, 0); return l },
		"Path": func() []int { l, _, _ := Path(g, 0, 3); return l },
	}
	wants := map[string][]int{"From": {0, 2, 5, 9}, "To": {9, 7, 4, 0}, "Tree": {-1, 0, 5, 63}, "Path": {0, 5, 63}}
	for one, call := range calls {
		for other, again := range calls {
			first, second := call(), again()
			for i := range first {
				first[i] = 99
			}
			_ = append(first, 98, 97)
			if !slices.Equal(second, wants[other]) {
				t.Errorf("P10.1, P10.2: %s's answer is written over, %s's was %v", one, other, second)
			}
			if l := again(); !slices.Equal(l, wants[other]) {
				t.Errorf("P10.1, P10.2: %s's answer is written over, %s again: %v", one, other, l)
			}
		}
	}
	same(t, g, r, 4)
}
