package both

import (
	"fmt"
	"math"
	"slices"
	"testing"

	"ringroad/api"
	"ringroad/graph"
	"ringroad/near"
	"ringroad/walk"
)

// noVertices are numbers of no vertex of n, though some look like one by their last bits.
func noVertices(n int) []int {
	return []int{
		math.MinInt, math.MinInt + 1, math.MinInt32, -1 << 32, -256, -64, -n, -2, -1,
		n, n + 1, n + 24, n + 64, n + 256, math.MaxInt32, 1 << 32, 1<<32 + n - 1, math.MaxInt - 1, math.MaxInt,
	}
}

// town is arcs by their numbers.
type town map[int]api.Arc

// open, closed: an arc.
func open(tail, head, weight int) api.Arc {
	return api.Arc{Tail: tail, Head: head, Weight: weight}
}

func closed(tail, head, weight int) api.Arc {
	return api.Arc{Tail: tail, Head: head, Weight: weight, Closed: true}
}

// made: a graph of n vertices with these arcs, all of which may be.
func made(t *testing.T, n int, r town) *graph.Graph {
	t.Helper()
	g, code := graph.New(n, 64)
	if g == nil || code != api.OK {
		t.Fatalf("P8.1: New(%d, 64): %v, %d", n, g, code)
	}
	for id, a := range r {
		if code := g.Insert(id, a); code != api.OK {
			t.Fatalf("P8.1: Insert(%d, %v): %d", id, a, code)
		}
	}
	return g
}

// What the tests' own form counts with, beyond what is told: what is longer than all that is told stays at that.
const (
	tooFar = uint64(1)<<62 + 1
	noWay  = uint64(1)<<62 + 2
)

// plus: one arc more; a walk that there isn't has none behind it.
func plus(sum uint64, weight int) uint64 {
	if sum == noWay {
		return noWay
	}
	return min(sum+uint64(weight), tooFar)
}

// wantFar: the least sums, from s to each vertex, of walks of at most as many arcs as there are vertices: each round one arc more, whatever comes next. It is the tests' own form, without a heap and from one side.
func (r town) wantFar(n, s int) []uint64 {
	far := slices.Repeat([]uint64{noWay}, n)
	far[s] = 0
	for range n {
		for _, a := range r {
			if !a.Closed {
				far[a.Head] = min(far[a.Head], plus(far[a.Tail], a.Weight))
			}
		}
	}
	return far
}

// leads: are these numbers of open arcs, each behind the one ahead, from s to v, at no vertex twice, which come to just so much?
func (r town) leads(s, v int, ids []int, sum uint64) bool {
	at, been, long := s, map[int]int{s: 1}, uint64(0)
	for _, id := range ids {
		a, there := r[id]
		if !there || a.Closed || a.Tail != at || been[a.Head] > 0 {
			return false
		}
		at, been[a.Head], long = a.Head, 1, plus(long, a.Weight)
	}
	return at == v && long == sum
}

// one: do both calls answer what the chapter asks of two vertices, from one of which it is so far to the other one?
func (r town) one(t *testing.T, g *graph.Graph, s, v int, far uint64) {
	t.Helper()
	if d, code := Dist(g, s, v); d != int(far) || code != api.OK {
		t.Fatalf("P11.1: %v: Dist(%d, %d): %d, %d, want %d", r, s, v, d, code, far)
	}
	ids, d, code := Path(g, s, v)
	if far >= tooFar {
		want := api.Long
		if far == noWay {
			want = api.NotFound
		}
		if len(ids) != 0 || d != 0 || code != want {
			t.Fatalf("P11.2: %v: Path(%d, %d): %v, %d, %d, want %d", r, s, v, ids, d, code, want)
		}
		return
	}
	if d != int(far) || code != api.OK || !r.leads(s, v, ids, far) {
		t.Fatalf("P11.2: %v: Path(%d, %d): %v, %d, %d, want %d", r, s, v, ids, d, code, far)
	}
	if walk.Check(g, s, v, ids) != api.OK || !walk.Simple(g, s, ids) || walk.Sum(g, ids) != d {
		t.Fatalf("P11.2: %v: Path(%d, %d): %v, %d: layer 9 says check %d, simple %v, sum %d", r, s, v, ids, d, walk.Check(g, s, v, ids), walk.Simple(g, s, ids), walk.Sum(g, ids))
	}
	if again, _, _ := Path(g, s, v); !slices.Equal(again, ids) {
		t.Fatalf("P11.2: %v: Path(%d, %d): %v, then %v", r, s, v, ids, again)
	}
}

// same: do both calls answer what the chapter asks, from each vertex to each, and what layer 10 says?
func (r town) same(t *testing.T, g *graph.Graph, n int) {
	t.Helper()
	for s := range n {
		far := r.wantFar(n, s)
		from, _ := near.From(g, s)
		for v := range n {
			r.one(t, g, s, v, far[v])
			if d, _ := Dist(g, s, v); d != from[v] {
				t.Fatalf("P11.3: %v: Dist(%d, %d): %d, layer 10: %d", r, s, v, d, from[v])
			}
		}
	}
}

// dice are numbers that look like chance and are the same each time.
type dice uint64

func (d *dice) next() uint64 {
	*d = *d*6364136223846793005 + 1442695040888963407
	return uint64(*d>>32) | uint64(*d<<32)
}

func (d *dice) below(n int) int { return int(d.next() % uint64(n)) }

// weights: ways to throw weights: often alike, rarely alike, such that some come to just about Most, about Most each, and of all sizes.
func (d *dice) weights() []func() int {
	return []func() int{
		func() int { return 1 + d.below(3) },
		func() int { return 1 + d.below(1000) },
		func() int { return api.Most/4 - 1 + d.below(3) },
		func() int { return api.Most - d.below(3) },
		func() int { return 1 + int(d.next()>>(2+d.below(60))) },
	}
}

func TestExample(t *testing.T) {
	g := made(t, 3, town{0: open(0, 1, 5), 1: open(1, 2, 5), 2: open(0, 2, 11)})
	if d, code := Dist(g, 0, 2); d != 10 || code != api.OK {
		t.Errorf("P11.1: Dist(0, 2): %d, %d", d, code)
	}
	if l, d, code := Path(g, 0, 2); !slices.Equal(l, []int{0, 1}) || d != 10 || code != api.OK {
		t.Errorf("P11.2: Path(0, 2): %v, %d, %d", l, d, code)
	}
}

// Written out by hand: from where to where, how far it is, and each path that may be told.
func TestByHand(t *testing.T) {
	const none, far, most = api.None, api.Far, api.Most
	for i, c := range []struct {
		n     int
		r     town
		s, t  int
		far   int
		paths [][]int
	}{
		// No arcs.
		{1, nil, 0, 0, 0, [][]int{nil}},
		{2, nil, 0, 1, none, nil},
		{24, nil, 23, 23, 0, [][]int{nil}},
		{24, nil, 0, 23, none, nil},
		{24, nil, 23, 0, none, nil},
		// One arc, at the first place and at the last one; no way back.
		{2, town{0: open(0, 1, 7)}, 0, 1, 7, [][]int{{0}}},
		{2, town{0: open(0, 1, 7)}, 1, 0, none, nil},
		{24, town{63: open(23, 0, 7)}, 23, 0, 7, [][]int{{63}}},
		{24, town{63: open(23, 0, 7)}, 0, 23, none, nil},
		// An arc from a vertex to itself leads nowhere.
		{1, town{0: open(0, 0, 1)}, 0, 0, 0, [][]int{nil}},
		{2, town{0: open(0, 0, 1), 1: open(0, 1, 2), 2: open(1, 1, 1)}, 0, 1, 2, [][]int{{1}}},
		{2, town{0: open(0, 0, 1), 2: open(1, 1, 1)}, 0, 1, none, nil},
		// Nor does a way round back to where it began.
		{2, town{0: open(0, 1, 1), 1: open(1, 0, 1)}, 1, 1, 0, [][]int{nil}},
		// Several arcs from one vertex to another one: a shortest one.
		{2, town{3: open(0, 1, 5), 4: open(0, 1, 4), 9: open(0, 1, 6)}, 0, 1, 4, [][]int{{4}}},
		{2, town{0: open(0, 1, 5), 1: open(0, 1, 4), 63: open(0, 1, 4)}, 0, 1, 4, [][]int{{1}, {63}}},
		{3, town{0: open(0, 1, 5), 1: open(0, 1, 4), 2: open(1, 2, 5), 3: open(1, 2, 4)}, 0, 2, 8, [][]int{{1, 3}}},
		// A closed arc is as none, wherever it lies.
		{2, town{0: closed(0, 1, 4), 1: open(0, 1, 5)}, 0, 1, 5, [][]int{{1}}},
		{2, town{0: closed(0, 1, 4)}, 0, 1, none, nil},
		{3, town{0: closed(0, 1, 1), 1: open(1, 2, 1), 2: open(0, 2, 9)}, 0, 2, 9, [][]int{{2}}},
		{3, town{0: open(0, 1, 1), 1: closed(1, 2, 1), 2: open(0, 2, 9)}, 0, 2, 9, [][]int{{2}}},
		{3, town{0: open(0, 1, 1), 1: closed(1, 2, 1)}, 0, 2, none, nil},
		// Walks of two and three arcs, that are shorter than one.
		{4, town{0: open(0, 3, 10), 1: open(0, 1, 3), 2: open(1, 2, 3), 3: open(2, 3, 3)}, 0, 3, 9, [][]int{{1, 2, 3}}},
		{4, town{0: open(0, 2, 7), 1: open(0, 1, 3), 2: open(1, 2, 3), 3: open(2, 3, 3)}, 0, 2, 6, [][]int{{1, 2}}},
		// Several walks that are as long as it is far, of one arc, two, and three.
		{5, town{0: open(0, 4, 6), 1: open(0, 1, 3), 2: open(1, 4, 3), 3: open(0, 2, 2), 4: open(2, 3, 2), 5: open(3, 4, 2)}, 0, 4, 6, [][]int{{0}, {1, 2}, {3, 4, 5}}},
		{4, town{0: open(0, 1, 1), 1: open(0, 2, 1), 2: open(1, 3, 1), 3: open(2, 3, 1)}, 0, 3, 2, [][]int{{0, 2}, {1, 3}}},
		// The first vertex at which both sides meet lies on no shortest walk: 1, of 5 and 5, where 2 and 3 take 9.
		{5, town{0: open(0, 1, 5), 1: open(1, 4, 5), 2: open(0, 2, 3), 3: open(2, 3, 3), 4: open(3, 4, 3)}, 0, 4, 9, [][]int{{2, 3, 4}}},
		{5, town{4: open(4, 3, 5), 3: open(3, 0, 5), 2: open(4, 2, 3), 1: open(2, 1, 3), 0: open(1, 0, 3)}, 4, 0, 9, [][]int{{2, 1, 0}}},
		// Likewise the last one: the one long arc is met first.
		{3, town{0: open(0, 2, 3), 1: open(0, 1, 1), 2: open(1, 2, 1)}, 0, 2, 2, [][]int{{1, 2}}},
		// The long arc at the beginning, in the middle, at the end.
		{4, town{0: open(0, 1, 100), 1: open(1, 2, 1), 2: open(2, 3, 1)}, 0, 3, 102, [][]int{{0, 1, 2}}},
		{4, town{0: open(0, 1, 1), 1: open(1, 2, 100), 2: open(2, 3, 1)}, 0, 3, 102, [][]int{{0, 1, 2}}},
		{4, town{0: open(0, 1, 1), 1: open(1, 2, 1), 2: open(2, 3, 100)}, 0, 3, 102, [][]int{{0, 1, 2}}},
		// Just Most, and above it.
		{2, town{5: open(0, 1, most)}, 0, 1, most, [][]int{{5}}},
		{3, town{5: open(0, 1, most-1), 6: open(1, 2, 1)}, 0, 2, most, [][]int{{5, 6}}},
		{3, town{5: open(0, 1, most/2), 6: open(1, 2, most/2)}, 0, 2, most, [][]int{{5, 6}}},
		{3, town{5: open(0, 1, most-1), 6: open(1, 2, 2)}, 0, 2, far, nil},
		{3, town{5: open(0, 1, 1), 6: open(1, 2, most)}, 0, 2, far, nil},
		{3, town{5: open(0, 1, most), 6: open(1, 2, most)}, 0, 2, far, nil},
		// A vertex at Far, and those behind it; there is a way round among them, and one to which there is no walk.
		{6, town{0: open(0, 1, most), 1: open(1, 2, 1), 2: open(2, 3, most), 3: open(3, 2, 1), 4: open(3, 4, 1)}, 0, 2, far, nil},
		{6, town{0: open(0, 1, most), 1: open(1, 2, 1), 2: open(2, 3, most), 3: open(3, 2, 1), 4: open(3, 4, 1)}, 0, 3, far, nil},
		{6, town{0: open(0, 1, most), 1: open(1, 2, 1), 2: open(2, 3, most), 3: open(3, 2, 1), 4: open(3, 4, 1)}, 0, 4, far, nil},
		{6, town{0: open(0, 1, most), 1: open(1, 2, 1), 2: open(2, 3, most), 3: open(3, 2, 1), 4: open(3, 4, 1)}, 3, 2, 1, [][]int{{3}}},
		{6, town{0: open(0, 1, most), 1: open(1, 2, 1), 2: open(2, 3, most), 3: open(3, 2, 1), 4: open(3, 4, 1)}, 0, 5, none, nil},
		// Neither side comes by what it is told to where the other one has been: both are at Far ahead of meeting.
		{6, town{0: open(0, 1, most), 1: open(1, 2, most), 2: open(2, 3, most), 3: open(3, 4, most), 4: open(4, 5, most)}, 0, 5, far, nil},
		// Met at Far first, told by more arcs.
		{5, town{0: open(0, 1, most), 1: open(1, 4, 1), 2: open(0, 2, 1), 3: open(2, 3, most-2), 4: open(3, 4, 1)}, 0, 4, most, [][]int{{2, 3, 4}}},
		{5, town{0: open(0, 1, 1), 1: open(1, 4, most), 2: open(0, 2, 1), 3: open(2, 3, 1), 4: open(3, 4, 1)}, 0, 4, 3, [][]int{{2, 3, 4}}},
		// Each side comes to vertices at which the other one never is.
		{6, town{0: open(0, 1, 1), 1: open(0, 2, 1), 2: open(4, 3, 1), 3: open(5, 3, 1)}, 0, 3, none, nil},
		{6, town{0: open(0, 1, 1), 1: open(0, 2, 1), 2: open(4, 3, 1), 3: open(5, 3, 1), 4: open(0, 3, 50)}, 0, 3, 50, [][]int{{4}}},
	} {
		g := made(t, c.n, c.r)
		if d, code := Dist(g, c.s, c.t); d != c.far || code != api.OK {
			t.Errorf("P11.1: %d: Dist(%d, %d): %d, %d, want %d", i, c.s, c.t, d, code, c.far)
		}
		want, code := c.far, api.OK
		switch c.far {
		case none:
			want, code = 0, api.NotFound
		case far:
			want, code = 0, api.Long
		}
		ids, d, got := Path(g, c.s, c.t)
		may := slices.ContainsFunc(c.paths, func(l []int) bool { return slices.Equal(l, ids) }) || c.paths == nil && len(ids) == 0
		if !may || d != want || got != code {
			t.Errorf("P11.2: %d: Path(%d, %d): %v, %d, %d, want one of %v, %d, %d", i, c.s, c.t, ids, d, got, c.paths, want, code)
		}
		c.r.same(t, g, c.n)
	}
}

// Numbers of no vertex: the one, the other one, and both; Arg comes ahead of 0, NotFound and Long.
func TestNoVertex(t *testing.T) {
	for _, n := range []int{1, 2, 3, 23, 24} {
		last := n - 1
		for _, r := range []town{nil, {0: open(0, last, 1), 63: open(last, 0, 1)}, {0: open(0, n/2, api.Most), 1: open(n/2, last, api.Most), 2: closed(0, 0, 1)}} {
			g := made(t, n, r)
			for _, v := range noVertices(n) {
				for _, pair := range [][2]int{{v, 0}, {v, last}, {v, n / 2}, {0, v}, {last, v}, {n / 2, v}, {v, v}, {-1, v}, {v, -1}, {n, v}, {v, n}} {
					if d, code := Dist(g, pair[0], pair[1]); d != 0 || code != api.Arg {
						t.Errorf("P11.1: n %d: Dist(%v): %d, %d", n, pair, d, code)
					}
					if ids, d, code := Path(g, pair[0], pair[1]); len(ids) != 0 || d != 0 || code != api.Arg {
						t.Errorf("P11.2: n %d: Path(%v): %v, %d, %d", n, pair, ids, d, code)
					}
				}
			}
		}
	}
}

// From each vertex to itself it is 0, by no arc, whatever arcs there are; without arcs there is no walk to another one.
func TestItself(t *testing.T) {
	for n := 1; n <= 24; n++ {
		stay := town{}
		for v := range n {
			stay[v], stay[63-v] = open(v, v, 1), closed(v, (v+1)%n, 1)
		}
		for _, r := range []town{nil, stay} {
			g := made(t, n, r)
			for s := range n {
				for v := range n {
					far, want, code := api.None, 0, api.NotFound
					if s == v {
						far, code = 0, api.OK
					}
					if d, code := Dist(g, s, v); d != far || code != api.OK {
						t.Fatalf("P11.1: n %d: Dist(%d, %d): %d, %d", n, s, v, d, code)
					}
					if ids, d, got := Path(g, s, v); len(ids) != 0 || d != want || got != code {
						t.Fatalf("P11.2: n %d: Path(%d, %d): %v, %d, %d", n, s, v, ids, d, got)
					}
				}
			}
		}
	}
}

// A round by all vertices, of each number of them, forwards and back, its arcs at the first places and at the last ones.
func TestRounds(t *testing.T) {
	for n := 1; n <= 24; n++ {
		for _, step := range []int{1, n - 1} {
			for _, weight := range []int{1, api.Most / 8, api.Most} {
				low, high := town{}, town{}
				for v := range n {
					low[v], high[63-v] = open(v, (v+step)%n, weight), open(v, (v+step)%n, weight)
				}
				low.same(t, made(t, n, low), n)
				high.same(t, made(t, n, high), n)
			}
		}
	}
}

// Whichever places arcs lie at, the path tells them by their numbers, one behind the other.
func TestNumbers(t *testing.T) {
	for one := range 64 {
		for other := range 64 {
			if one == other {
				continue
			}
			g := made(t, 24, town{one: open(0, 11, 8), other: open(11, 23, 9)})
			if d, code := Dist(g, 0, 23); d != 17 || code != api.OK {
				t.Fatalf("P11.1: arcs %d and %d: Dist(0, 23): %d, %d", one, other, d, code)
			}
			if ids, d, code := Path(g, 0, 23); !slices.Equal(ids, []int{one, other}) || d != 17 || code != api.OK {
				t.Fatalf("P11.2: arcs %d and %d: Path(0, 23): %v, %d, %d", one, other, ids, d, code)
			}
			if _, _, code := Path(g, 23, 0); code != api.NotFound {
				t.Fatalf("P11.2: arcs %d and %d: Path(23, 0): %d", one, other, code)
			}
		}
	}
}

// lay lays arcs of a weight from one vertex to another one, by way of vertices of their own, with numbers from id on.
func (r town) lay(id, from, via, to, arcs, weight int) {
	at := from
	for i := range arcs - 1 {
		r[id+i] = open(at, via+i, weight)
		at = via + i
	}
	r[id+arcs-1] = open(at, to, weight)
}

// weigh: an arc has another weight.
func (r town) weigh(id, weight int) {
	a := r[id]
	a.Weight = weight
	r[id] = a
}

// turned: the same arcs, each the other way round.
func (r town) turned() town {
	other := town{}
	for id, a := range r {
		a.Tail, a.Head = a.Head, a.Tail
		other[id] = a
	}
	return other
}

// Lines of arcs of which one is long, at each place in turn, so that both sides meet at the first vertex, at the last one, and at each one between; with and without short arcs at both ends that lead nowhere, by which the one side, or the other one, has much to do ahead of going on.
func TestMeetingPlace(t *testing.T) {
	for arcs := 1; arcs <= 15; arcs++ {
		last := arcs
		for long := range arcs {
			for _, weight := range []int{1, 2, 50, api.Most - arcs, api.Most - arcs + 1, min(api.Most, api.Most-arcs+2)} {
				for arms := range 4 {
					r := town{}
					r.lay(40, 0, 1, last, arcs, 1)
					r.weigh(40+long, weight)
					for i := range 4 {
						if arms&1 != 0 {
							r[i] = open(0, last+1+i, 1)
						}
						if arms&2 != 0 {
							r[4+i] = open(last+5+i, last, 1)
						}
					}
					g, far := made(t, last+9, r), plus(uint64(arcs-1), weight)
					r.one(t, g, 0, last, far)
					r.one(t, g, last, 0, noWay)
					if d, code := Dist(g, 0, last); (d == api.Far) != (weight > api.Most-arcs+1) || code != api.OK {
						t.Fatalf("P11.1: %v: Dist(0, %d): %d, %d", r, last, d, code)
					}
				}
			}
		}
	}
}

// Two ways from the first vertex to the last one, of each number of arcs each, the one shorter than the other one by a little, as long, and longer, there and back: whichever is met on first isn't the best one for that.
func TestTwoWays(t *testing.T) {
	for one := 1; one <= 12; one++ {
		for other := 1; other <= 12; other++ {
			n := one + other
			for _, more := range []int{-1, 0, 1} {
				for long := range other {
					r := town{}
					r.lay(0, 0, 1, n-1, one, 100*other)
					r.lay(40, 0, one, n-1, other, 100*one)
					r.weigh(40+long, 100*one+more)
					g, back := made(t, n, r), made(t, n, r.turned())
					want := uint64(100*one*other + min(more, 0))
					r.one(t, g, 0, n-1, want)
					r.turned().one(t, back, n-1, 0, want)
					there, _, _ := Path(g, 0, n-1)
					home, _, _ := Path(back, n-1, 0)
					if more != 0 && ((there[0] >= 40) != (more < 0) || (home[0] >= 40) != (more < 0)) {
						t.Fatalf("P11.2: %v: Path: %v, the other way round %v", r, there, home)
					}
				}
			}
		}
	}
}

// All graphs of 3 vertices with up to 3 arcs of each kind: where from and where to, long or short, open or closed.
func TestAllSmallGraphs(t *testing.T) {
	kinds := []api.Arc{{}}
	for tail := range 3 {
		for head := range 3 {
			kinds = append(kinds, open(tail, head, 1), open(tail, head, api.Most), closed(tail, head, 1))
		}
	}
	for _, a := range kinds {
		for _, b := range kinds {
			for _, c := range kinds {
				r := town{}
				for id, arc := range map[int]api.Arc{0: a, 31: b, 63: c} {
					if arc.Weight > 0 {
						r[id] = arc
					}
				}
				r.same(t, made(t, 3, r), 3)
			}
		}
	}
}

// All graphs of 4 vertices with at most one arc, of the weights 1 to 4, from one to another, of those that can be on a way from 0 to 3.
func TestAllFourVertices(t *testing.T) {
	pairs := [][2]int{{0, 1}, {0, 2}, {0, 3}, {1, 2}, {2, 1}, {1, 3}, {2, 3}}
	for number := range 78125 {
		r := town{}
		for id, pair := range pairs {
			if weight := number % 5; weight > 0 {
				r[id] = open(pair[0], pair[1], weight)
			}
			number /= 5
		}
		r.one(t, made(t, 4, r), 0, 3, r.wantFar(4, 0)[3])
	}
}

// Graphs that look like chance, of each number of vertices, with few arcs and with many, with all kinds of weights.
func TestManyGraphs(t *testing.T) {
	d := dice(35)
	weights := d.weights()
	met := map[string]int{}
	for n := 1; n <= 24; n++ {
		for round := range 30 {
			weight, r := weights[round%len(weights)], town{}
			for id := range 64 {
				if d.below(6) <= round/len(weights) {
					r[id] = api.Arc{Tail: d.below(n), Head: d.below(n), Weight: weight(), Closed: d.below(6) == 0}
				}
			}
			g := made(t, n, r)
			r.same(t, g, n)
			for s := range n {
				ids, _, code := Path(g, s, d.below(n))
				met[fmt.Sprint("code ", code)]++
				met[fmt.Sprint("arcs ", min(len(ids), 6))]++
			}
		}
	}
	for _, what := range []string{"code 0", "code 3", "code 9", "arcs 1", "arcs 2", "arcs 3", "arcs 4", "arcs 5", "arcs 6"} {
		if met[what] < 100 {
			t.Errorf("%s came %d times alone", what, met[what])
		}
	}
}

// Graphs in layers, each vertex of which leads to some of the next layers: many ways of several arcs that are about as long.
func TestLayers(t *testing.T) {
	d := dice(11)
	weights := d.weights()
	for round := range 300 {
		weight, r, wide := weights[round%len(weights)], town{}, 1+round%4
		for id := range 64 {
			tail := d.below(24)
			if head := (tail/wide+1+d.below(2))*wide + d.below(wide); head < 24 {
				r[id] = api.Arc{Tail: tail, Head: head, Weight: weight(), Closed: d.below(20) == 0}
			}
		}
		g := made(t, 24, r)
		for s := range 8 {
			far := r.wantFar(24, s)
			for v := range 24 {
				r.one(t, g, s, v, far[v])
			}
		}
	}
}

// What is told is of the graph as it is then.
func TestGraphChanges(t *testing.T) {
	g := made(t, 3, town{0: open(0, 1, 1), 1: open(1, 2, 5), 2: open(0, 2, 9)})
	for i, c := range []struct {
		change func() api.Code
		far    int
		ids    []int
		code   api.Code
	}{
		{func() api.Code { return g.Weigh(0, 3) }, 8, []int{0, 1}, api.OK},
		{func() api.Code { return g.Weigh(0, 5) }, 9, []int{2}, api.OK},
		{func() api.Code { return g.Close(2) }, 10, []int{0, 1}, api.OK},
		{func() api.Code { return g.Weigh(1, api.Most-5) }, api.Most, []int{0, 1}, api.OK},
		{func() api.Code { return g.Weigh(1, api.Most-4) }, api.Far, nil, api.Long},
		{func() api.Code { return g.Delete(0) }, api.None, nil, api.NotFound},
		{func() api.Code { return g.Reopen(2) }, 9, []int{2}, api.OK},
		{func() api.Code { return g.Insert(0, open(0, 2, 2)) }, 2, []int{0}, api.OK},
	} {
		if code := c.change(); code != api.OK {
			t.Fatalf("P8.2: change %d: %d", i, code)
		}
		if d, code := Dist(g, 0, 2); d != c.far || code != api.OK {
			t.Errorf("P11.1: change %d: Dist(0, 2): %d, %d, want %d", i, d, code, c.far)
		}
		want := c.far
		if c.code != api.OK {
			want = 0
		}
		if ids, d, code := Path(g, 0, 2); !slices.Equal(ids, c.ids) || d != want || code != c.code {
			t.Errorf("P11.2: change %d: Path(0, 2): %v, %d, %d, want %v, %d, %d", i, ids, d, code, c.ids, want, c.code)
		}
	}
}

// A path is the same one each time, whatever was asked between, of a copy too, and of a graph that came to be as this one by other ways.
func TestSameEachTime(t *testing.T) {
	d := dice(4)
	for round := range 60 {
		n, r := 2+d.below(23), town{}
		for id := range 64 {
			if d.below(4) > 0 {
				r[id] = api.Arc{Tail: d.below(n), Head: d.below(n), Weight: 1 + d.below(2), Closed: d.below(8) == 0}
			}
		}
		g := made(t, n, r)
		other, _ := graph.New(n, max(1, len(r)))
		for id := 63; id >= 0; id-- {
			a, there := r[id]
			other.Insert(id, open(d.below(n), d.below(n), 1))
			if other.Delete(id); !there {
				continue
			}
			if other.Insert(id, open(a.Tail, a.Head, 9)); a.Closed {
				other.Close(id)
			}
			other.Weigh(id, a.Weight)
		}
		var first [][]int
		for _, g := range []*graph.Graph{g, g, g.Copy(), other, g} {
			var all [][]int
			for s := range n {
				for v := range n {
					ids, _, _ := Path(g, s, v)
					all = append(all, ids)
				}
			}
			if first == nil {
				first = all
			}
			if !slices.EqualFunc(first, all, slices.Equal[[]int]) {
				t.Fatalf("P11.2: round %d: %v: paths %v, then %v", round, r, first, all)
			}
		}
	}
}

// The graph stays as it is, whatever is asked.
func TestGraphStays(t *testing.T) {
	r := town{0: open(0, 1, 2), 1: open(0, 1, 2), 2: open(1, 2, api.Most), 3: open(2, 3, 1), 31: closed(0, 3, 1), 62: open(3, 3, 4), 63: open(3, 0, 5)}
	g := made(t, 5, r)
	was := *g
	for s := -1; s <= 5; s++ {
		for v := -1; v <= 5; v++ {
			Dist(g, s, v)
			Path(g, s, v)
		}
	}
	if *g != was || g.Len() != len(r) || g.Vertices() != 5 {
		t.Errorf("P11.1, P11.2: the graph: %v, was %v", *g, was)
	}
	for id, want := range r {
		if a, ok := g.Arc(id); a != want || !ok {
			t.Errorf("P11.1, P11.2: the graph: arc %d: %v, %v, want %v", id, a, ok, want)
		}
	}
}

// What is answered can be written into without changing what is answered later, or what another answer was.
func TestAnswersAreOwn(t *testing.T) {
	r := town{0: open(0, 1, 2), 5: open(1, 2, 3), 63: open(2, 3, 4)}
	g := made(t, 4, r)
	want := []int{0, 5, 63}
	first, _, _ := Path(g, 0, 3)
	second, _, _ := Path(g, 0, 3)
	for i := range first {
		first[i] = 99
	}
	_ = append(first, 98, 97)
	_ = append(first[:1], 96, 95)
	if !slices.Equal(second, want) {
		t.Errorf("P11.2: one answer is written over, the other one was %v", second)
	}
	if l, d, code := Path(g, 0, 3); !slices.Equal(l, want) || d != 9 || code != api.OK {
		t.Errorf("P11.2: an answer is written over, Path again: %v, %d, %d", l, d, code)
	}
	r.same(t, g, 4)
}
