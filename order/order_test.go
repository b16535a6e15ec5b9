package order

import (
	"math"
	"slices"
	"testing"

	"ringroad/api"
	"ringroad/graph"
	"ringroad/mesh"
	"ringroad/perm"
)

const most, far, none = api.Most, api.Far, api.None

// noVertices are numbers of no vertex of n, though some look like one by their last bits.
func noVertices(n int) []int {
	return []int{
		math.MinInt, math.MinInt + 1, math.MinInt32, -1 << 32, -256, -64, -24, -n, -2, -1,
		n, n + 1, n + 24, n + 64, n + 256, math.MaxInt32, 1 << 32, 1<<32 + n - 1, math.MaxInt - 1, math.MaxInt,
	}
}

// edgeSettles are numbers of vertices that may be settled, of n, at the edges.
func edgeSettles(n int) []int {
	return []int{
		math.MinInt, math.MinInt + 1, -1 << 32, -n, -1, 0, 1, 2, n - 1, n, n + 1,
		math.MaxInt32, 1 << 32, 1<<32 + 1, math.MaxInt - 1, math.MaxInt,
	}
}

// step is one as it is put: from where, to where, how long.
type step [3]int

// chart is a mesh in a form of the tests' own: how long each step is, 0 where there is none.
type chart struct {
	n    int
	long [24][24]uint64
}

// put: a step that may be.
func (c *chart) put(u, w, long int) {
	c.long[u][w] = 0
	if long != none {
		c.long[u][w] = uint64(long)
	}
}

// steps: all steps, for a message.
func (c *chart) steps() []step {
	var l []step
	for u := range c.n {
		for w := range c.n {
			if c.long[u][w] > 0 {
				l = append(l, step{u, w, int(c.long[u][w])})
			}
		}
	}
	return l
}

// plus: how long a step is behind another one.
func plus(a, b uint64) uint64 { return min(a+b, far) }

// settled: what the search from u without v settles, in order, if it may settle all, and how far each is: again and again the nearest one of all, of like ones the least.
func (c *chart) settled(u, v int) ([]int, [24]uint64) {
	var order []int
	var is [24]uint64
	for x := range is {
		is[x] = none
	}
	is[u] = 0
	for {
		at := -1
		for x := range c.n {
			if x != v && !slices.Contains(order, x) && is[x] < none && (at < 0 || is[x] < is[at]) {
				at = x
			}
		}
		if at < 0 {
			return order, is
		}
		order = append(order, at)
		for x := range c.n {
			if c.long[at][x] > 0 {
				is[x] = min(is[x], plus(is[at], c.long[at][x]))
			}
		}
	}
}

// need: of how many detours by a vertex the search from where they begin doesn't settle where they end, among as many as it may, and no farther than they are long.
func (c *chart) need(v, settles int) int {
	count := 0
	for u := range c.n {
		if c.long[u][v] == 0 {
			continue
		}
		order, is := c.settled(u, v)
		order = order[:max(0, min(settles, len(order)))]
		for w := range c.n {
			there := w != u && c.long[v][w] > 0
			if there && (!slices.Contains(order, w) || is[w] > plus(c.long[u][v], c.long[v][w])) {
				count++
			}
		}
	}
	return count
}

// difference: the need, and 1 less for each step from the vertex, and for each to it.
func (c *chart) difference(v, settles int) int {
	d := c.need(v, settles)
	for x := range c.n {
		if c.long[v][x] > 0 {
			d--
		}
		if c.long[x][v] > 0 {
			d--
		}
	}
	return d
}

// contracted: the chart behind a contraction.
func (c chart) contracted(v int) chart {
	next := c
	for u := range c.n {
		for w := range c.n {
			to, from := c.long[u][v], c.long[v][w]
			if u != w && to > 0 && from > 0 && (c.long[u][w] == 0 || plus(to, from) < c.long[u][w]) {
				next.long[u][w] = plus(to, from)
			}
		}
	}
	for x := range c.n {
		next.long[v][x], next.long[x][v] = 0, 0
	}
	return next
}

// taken is a vertex that was contracted, with the chart just ahead of that.
type taken struct {
	v     int
	ahead chart
}

// cost: the difference in the chart as it is, and how many had a step from the vertex, or to it, just ahead of their contraction.
func (c *chart) cost(v, settles int, gone []taken) int {
	cost := c.difference(v, settles)
	for _, x := range gone {
		if x.ahead.long[x.v][v] > 0 || x.ahead.long[v][x.v] > 0 {
			cost++
		}
	}
	return cost
}

// rank: each vertex's rank in the order by cost.
func (c chart) rank(settles int) []int {
	ranks := slices.Repeat([]int{-1}, c.n)
	var gone []taken
	for len(gone) < c.n {
		at, least := -1, 0
		for v := range c.n {
			if ranks[v] >= 0 {
				continue
			}
			if cost := c.cost(v, settles, gone); at < 0 || cost < least {
				at, least = v, cost
			}
		}
		ranks[at] = len(gone)
		gone = append(gone, taken{at, c})
		c = c.contracted(at)
	}
	return ranks
}

// made: a mesh, and its chart, with these steps, all of which may be put.
func made(t *testing.T, n int, steps ...step) (*mesh.Mesh, *chart) {
	t.Helper()
	m, code := mesh.New(n)
	if m == nil || code != api.OK {
		t.Fatalf("P12.1: New(%d): %v, %d", n, m, code)
	}
	c := &chart{n: n}
	for _, x := range steps {
		if code := m.Put(x[0], x[1], x[2]); code != api.OK {
			t.Fatalf("P12.1: Put(%v): %d", x, code)
		}
		c.put(x[0], x[1], x[2])
	}
	return m, c
}

// open is an arc as it is laid, closed is one that is closed.
func open(tail, head, weight int) api.Arc {
	return api.Arc{Tail: tail, Head: head, Weight: weight}
}

func closed(tail, head, weight int) api.Arc {
	return api.Arc{Tail: tail, Head: head, Weight: weight, Closed: true}
}

// laid: a graph, and the chart of its mesh, with these arcs, all of which may lie there.
func laid(t *testing.T, n int, arcs ...api.Arc) (*graph.Graph, *chart) {
	t.Helper()
	g, code := graph.New(n, api.MaxArcs)
	if g == nil || code != api.OK {
		t.Fatalf("P8.1: New(%d, %d): %v, %d", n, api.MaxArcs, g, code)
	}
	c := &chart{n: n}
	for id, a := range arcs {
		if code := g.Insert(id, a); code != api.OK {
			t.Fatalf("P8.1: Insert(%d, %v): %d", id, a, code)
		}
		if old := c.long[a.Tail][a.Head]; !a.Closed && a.Tail != a.Head && (old == 0 || uint64(a.Weight) < old) {
			c.put(a.Tail, a.Head, a.Weight)
		}
	}
	return g, c
}

// roads: arcs that are steps.
func roads(steps ...step) []api.Arc {
	var arcs []api.Arc
	for _, x := range steps {
		arcs = append(arcs, open(x[0], x[1], x[2]))
	}
	return arcs
}

// same: do Need and Difference answer what the tests' own form does? The need.
func same(t *testing.T, m *mesh.Mesh, c *chart, v, settles int) int {
	t.Helper()
	need, difference := c.need(v, settles), c.difference(v, settles)
	if got, code := Need(m, v, settles); got != need || code != api.OK {
		t.Fatalf("P14.1: of %d, %v: Need(%d, %d): %d, %d, want %d", c.n, c.steps(), v, settles, got, code, need)
	}
	if got, code := Difference(m, v, settles); got != difference || code != api.OK {
		t.Fatalf("P14.1: of %d, %v: Difference(%d, %d): %d, %d, want %d", c.n, c.steps(), v, settles, got, code, difference)
	}
	return need
}

// sameRank: does Rank answer what the tests' own form does, and is that an order? The order.
func sameRank(t *testing.T, g *graph.Graph, c *chart, settles int) []int {
	t.Helper()
	want, got := c.rank(settles), Rank(g, settles)
	if !slices.Equal(got, want) || !perm.Right(got) {
		t.Fatalf("P14.2: of %d, %v: Rank(%d): %v, want %v", c.n, c.steps(), settles, got, want)
	}
	return got
}

// dice are numbers that look like chance and are the same each time.
type dice uint64

func (d *dice) next() uint64 {
	*d = *d*6364136223846793005 + 1442695040888963407
	return uint64(*d>>32) | uint64(*d<<32)
}

func (d *dice) below(n int) int { return int(d.next() % uint64(n)) }

// lengths: ways to throw lengths that a weight may have, too: often alike, rarely alike, such that two come to just about Most, about Most each, of all sizes, and such that longer ways are often as long as shorter ones.
func (d *dice) lengths() []func() int {
	return []func() int{
		func() int { return 1 + d.below(3) },
		func() int { return 1 + d.below(1000) },
		func() int { return most/2 - 1 + d.below(3) },
		func() int { return most - d.below(3) },
		func() int { return 1 + int(d.next()>>(2+d.below(60))) },
		func() int { return 1 << d.below(4) },
	}
}

// filled: a mesh and its chart with steps that look like chance, so many of 8 of those that there can be, now and then one at Far.
func (d *dice) filled(t *testing.T, n, many int, length func() int) (*mesh.Mesh, *chart) {
	t.Helper()
	var steps []step
	for u := range n {
		for w := range n {
			if u == w || d.below(8) >= many {
				continue
			}
			long := length()
			if d.below(20) == 0 {
				long = far
			}
			steps = append(steps, step{u, w, long})
		}
	}
	return made(t, n, steps...)
}

// town: a graph and the chart of its mesh with so many arcs that look like chance; there are loops, closed ones, and such as lie beside others among them.
func (d *dice) town(t *testing.T, n, many int, length func() int) (*graph.Graph, *chart) {
	t.Helper()
	var arcs []api.Arc
	for range many {
		a := open(d.below(n), d.below(n), length())
		a.Closed = d.below(8) == 0
		arcs = append(arcs, a)
		if back := open(a.Head, a.Tail, length()); d.below(3) == 0 && len(arcs) < many {
			arcs = append(arcs, back)
		}
	}
	return laid(t, n, arcs[:many]...)
}

func TestExample(t *testing.T) {
	m, _ := made(t, 3, step{0, 1, 2}, step{1, 2, 3}, step{0, 2, 9})
	if need, code := Need(m, 1, 24); need != 1 || code != api.OK {
		t.Errorf("P14.1: Need: %d, %d", need, code)
	}
	if difference, code := Difference(m, 1, 24); difference != -1 || code != api.OK {
		t.Errorf("P14.1: Difference: %d, %d", difference, code)
	}
	m.Put(0, 2, 5)
	if need, code := Need(m, 1, 24); need != 0 || code != api.OK {
		t.Errorf("P14.1: with 0 to 2 of 5: Need: %d, %d", need, code)
	}
	if difference, code := Difference(m, 1, 24); difference != -2 || code != api.OK {
		t.Errorf("P14.1: with 0 to 2 of 5: Difference: %d, %d", difference, code)
	}
}

// Written out by hand: each vertex's need, and its difference.
func TestByHand(t *testing.T) {
	star := []step{{0, 1, 1}, {1, 0, 1}, {0, 2, 1}, {2, 0, 1}, {0, 3, 1}, {3, 0, 1}}
	// The way round 1 from 0 to 4 goes by 2 and 3, and is just as long as that by 1.
	round := []step{{0, 1, 5}, {1, 4, 5}, {0, 2, 4}, {2, 3, 4}, {3, 4, 2}}
	// By 3 there are the detours 0 to 1 and 0 to 2, of which one is spared; of 2 to 1 and 2 to 0 none is.
	half := []step{{0, 3, 2}, {3, 1, 2}, {3, 2, 2}, {0, 1, 4}, {2, 3, 2}}
	for i, c := range []struct {
		n                  int
		steps              []step
		settles            int
		needs, differences []int
	}{
		// Without steps, and with one.
		{1, nil, 9, []int{0}, []int{0}},
		{1, nil, 0, []int{0}, []int{0}},
		{2, nil, 9, []int{0, 0}, []int{0, 0}},
		{2, []step{{0, 1, 7}}, 9, []int{0, 0}, []int{-1, -1}},
		{2, []step{{1, 0, far}}, 9, []int{0, 0}, []int{-1, -1}},
		{2, []step{{0, 1, none}}, 9, []int{0, 0}, []int{0, 0}},
		{3, []step{{0, 1, 7}, {1, 2, 7}, {0, 1, none}}, 9, []int{0, 0, 0}, []int{0, -1, -1}},
		// Steps both ways between two: no detour leads back to where it began.
		{2, []step{{0, 1, 7}, {1, 0, 8}}, 0, []int{0, 0}, []int{-2, -2}},
		{3, []step{{0, 2, 1}, {2, 0, most}}, 1, []int{0, 0, 0}, []int{-2, 0, -2}},
		// One detour by 1: the step is shorter, just as long, one longer, or leads the other way.
		{3, []step{{0, 1, 2}, {1, 2, 3}, {0, 2, 4}}, 9, []int{0, 0, 0}, []int{-2, -2, -2}},
		{3, []step{{0, 1, 2}, {1, 2, 3}, {0, 2, 5}}, 9, []int{0, 0, 0}, []int{-2, -2, -2}},
		{3, []step{{0, 1, 2}, {1, 2, 3}, {0, 2, 6}}, 9, []int{0, 1, 0}, []int{-2, -1, -2}},
		{3, []step{{0, 1, 2}, {1, 2, 3}}, 9, []int{0, 1, 0}, []int{-1, -1, -1}},
		// By 1 from 0 to 2, by 2 from 1 to 0, by 0 from 2 to 1, each with nothing else.
		{3, []step{{0, 1, 2}, {1, 2, 3}, {2, 0, 1}}, 9, []int{1, 1, 1}, []int{-1, -1, -1}},
		// The step spares the detour if the search may settle where it ends: 2 vertices.
		{3, []step{{0, 1, 2}, {1, 2, 3}, {0, 2, 5}}, 2, []int{0, 0, 0}, []int{-2, -2, -2}},
		{3, []step{{0, 1, 2}, {1, 2, 3}, {0, 2, 5}}, 1, []int{0, 1, 0}, []int{-2, -1, -2}},
		{3, []step{{0, 1, 2}, {1, 2, 3}, {0, 2, 5}}, 0, []int{0, 1, 0}, []int{-2, -1, -2}},
		{3, []step{{0, 1, 2}, {1, 2, 3}, {0, 2, 5}}, -1, []int{0, 1, 0}, []int{-2, -1, -2}},
		{3, []step{{0, 1, 2}, {1, 2, 3}, {0, 2, 5}}, math.MinInt, []int{0, 1, 0}, []int{-2, -1, -2}},
		{3, []step{{0, 1, 2}, {1, 2, 3}, {0, 2, 5}}, math.MaxInt, []int{0, 0, 0}, []int{-2, -2, -2}},
		// The star: 0 has each detour between two of the others, of which one step spares one.
		{4, star, 9, []int{6, 0, 0, 0}, []int{0, -2, -2, -2}},
		{4, append(star, step{1, 2, 3}), 9, []int{6, 0, 0, 0}, []int{0, -3, -3, -2}},
		{4, append(star, step{1, 2, 2}), 9, []int{5, 0, 0, 0}, []int{-1, -3, -3, -2}},
		// A step from 1 to 2 of 1: then 3 to 2 by 0 isn't spared, for there is no way from 3 without 0.
		{4, append(star, step{1, 2, 1}), 9, []int{5, 0, 0, 0}, []int{-1, -3, -3, -2}},
		// Searches of few: 0 to 2 by 1 of 2 isn't spared by 0 to 2 of 1, nor is 1 to 0 by 2.
		{4, append(star, step{1, 2, 1}), 1, []int{6, 1, 1, 0}, []int{0, -2, -2, -2}},
		{4, append(star, step{1, 2, 1}), 2, []int{5, 0, 0, 0}, []int{-1, -3, -3, -2}},
		// From 0 without 1 it is as far to 2 as to 3, and 2 is settled first: a search of 2 doesn't spare 0 to 3 by 1, one of 3 does.
		{4, append(star, step{1, 3, 1}), 2, []int{5, 1, 0, 0}, []int{-1, -2, -2, -3}},
		{4, append(star, step{1, 3, 1}), 3, []int{5, 0, 0, 0}, []int{-1, -3, -2, -3}},
		// The way round: a search of 4 finds it, one of 3 doesn't; the detours by 2 and 3 are as need be.
		{5, round, 9, []int{0, 0, 1, 1, 0}, []int{-2, -2, -1, -1, -2}},
		{5, round, 4, []int{0, 0, 1, 1, 0}, []int{-2, -2, -1, -1, -2}},
		{5, round, 3, []int{0, 1, 1, 1, 0}, []int{-2, -1, -1, -1, -2}},
		{5, append(round, step{3, 4, 3}), 9, []int{0, 1, 1, 1, 0}, []int{-2, -1, -1, -1, -2}},
		// From 2 to 1, too: by 1 there are two detours, both spared, and by 2 there are two, of which 0 to 1 is.
		{5, append(round, step{2, 1, 1}), 9, []int{0, 0, 1, 0, 0}, []int{-2, -3, -2, -2, -2}},
		// Some detours are spared, some aren't: 0 to 1 is, 0 to 2 and 2 to 1 aren't.
		{4, half, 9, []int{0, 0, 0, 2}, []int{-2, -2, -2, -2}},
		{4, half, 2, []int{0, 0, 0, 2}, []int{-2, -2, -2, -2}},
		{4, half, 1, []int{0, 0, 0, 3}, []int{-2, -2, -2, -1}},
		// Detours of just Most, and at Far.
		{3, []step{{0, 1, 1}, {1, 2, most - 1}, {0, 2, most}}, 9, []int{0, 0, 0}, []int{-2, -2, -2}},
		{3, []step{{0, 1, 1}, {1, 2, most - 1}, {0, 2, far}}, 9, []int{0, 1, 0}, []int{-2, -1, -2}},
		{3, []step{{0, 1, 1}, {1, 2, most}, {0, 2, far}}, 9, []int{0, 0, 0}, []int{-2, -2, -2}},
		{3, []step{{0, 1, far}, {1, 2, far}}, 9, []int{0, 1, 0}, []int{-1, -1, -1}},
		{4, []step{{0, 1, far}, {1, 2, 1}, {0, 3, most}, {3, 2, most}}, 9, []int{0, 0, 0, 0}, []int{-2, -2, -2, -2}},
		{4, []step{{0, 1, far}, {1, 2, 1}, {0, 3, most - 1}, {3, 2, 1}}, 9, []int{0, 0, 0, 1}, []int{-2, -2, -2, -1}},
	} {
		m, form := made(t, c.n, c.steps...)
		for v := range c.n {
			if need, code := Need(m, v, c.settles); need != c.needs[v] || code != api.OK {
				t.Errorf("P14.1: %d: Need(%d, %d): %d, %d, want %d", i, v, c.settles, need, code, c.needs[v])
			}
			if difference, code := Difference(m, v, c.settles); difference != c.differences[v] || code != api.OK {
				t.Errorf("P14.1: %d: Difference(%d, %d): %d, %d, want %d", i, v, c.settles, difference, code, c.differences[v])
			}
			same(t, m, form, v, c.settles)
		}
	}
}

// No such vertex: Arg and 0, whatever number of vertices is handed in.
func TestNoVertex(t *testing.T) {
	for _, n := range []int{1, 2, 3, 24} {
		d := dice(n)
		m, _ := d.filled(t, n, 7, func() int { return 1 + d.below(9) })
		was := *m
		for _, v := range noVertices(n) {
			for _, settles := range edgeSettles(n) {
				if need, code := Need(m, v, settles); need != 0 || code != api.Arg {
					t.Errorf("P14.1: of %d: Need(%d, %d): %d, %d", n, v, settles, need, code)
				}
				if difference, code := Difference(m, v, settles); difference != 0 || code != api.Arg {
					t.Errorf("P14.1: of %d: Difference(%d, %d): %d, %d", n, v, settles, difference, code)
				}
			}
		}
		if *m != was {
			t.Errorf("P14.1: of %d: the mesh isn't as it was", n)
		}
	}
}

// Each number of vertices at the edges; all below 0 are as 0, and all of at least as many as there are as each other.
func TestEdges(t *testing.T) {
	for _, n := range []int{1, 2, 3, 24} {
		for round := range 6 {
			d := dice(100*n + round)
			length := d.lengths()[round]
			m, c := d.filled(t, n, 1+round, length)
			for _, v := range []int{0, n / 2, n - 1} {
				for _, settles := range edgeSettles(n) {
					need := same(t, m, c, v, settles)
					if like := same(t, m, c, v, max(0, min(settles, n))); like != need {
						t.Fatalf("P14.1: of %d: Need(%d, %d): %d, of fewer or more %d", n, v, settles, need, like)
					}
				}
			}
			g, r := d.town(t, n, min(64, 1+n*(1+round)), length)
			for _, settles := range edgeSettles(n) {
				sameRank(t, g, r, settles)
			}
		}
	}
}

// Written out by hand: each vertex's rank. What each vertex that is left costs stands ahead of each rank.
func TestRankByHand(t *testing.T) {
	chain := roads(step{0, 1, 1}, step{1, 0, 1}, step{1, 2, 1}, step{2, 1, 1}, step{2, 3, 1}, step{3, 2, 1})
	hop := roads(step{0, 1, 1}, step{2, 0, 2}, step{2, 1, 3})
	far := roads(step{2, 0, most}, step{0, 3, 1}, step{2, 1, most}, step{1, 3, 2})
	few := roads(step{0, 2, 3}, step{1, 0, 3}, step{1, 3, 1}, step{3, 2, 3})
	for i, c := range []struct {
		n       int
		arcs    []api.Arc
		settles int
		want    []int
	}{
		// Without steps all cost nothing: by rising numbers.
		{1, nil, 9, []int{0}},
		{1, []api.Arc{open(0, 0, 1)}, 9, []int{0}},
		{2, nil, 9, []int{0, 1}},
		{3, []api.Arc{open(1, 1, 1), closed(1, 2, 1)}, 9, []int{0, 1, 2}},
		// Both cost as much, and the lesser number comes first.
		{2, roads(step{0, 1, 7}), 9, []int{0, 1}},
		{2, roads(step{1, 0, 7}), 9, []int{0, 1}},
		{2, roads(step{1, 0, 7}, step{0, 1, 7}), 0, []int{0, 1}},
		// -1, -1, 0; then 1 costs 1, for 0 had a step from it, and 2 costs 0. And the same by a step the other way.
		{3, roads(step{1, 0, 3}), 9, []int{0, 2, 1}},
		{3, roads(step{0, 1, 3}), 9, []int{0, 2, 1}},
		// 0, -1, -1; 0 and 1; 1.
		{3, roads(step{1, 2, 3}), 9, []int{1, 0, 2}},
		// -2 each; -1, -2, -2; 0 and -1. With searches of none the detours are the same: none could be spared.
		{4, chain, 24, []int{0, 3, 1, 2}},
		{4, chain, 0, []int{0, 3, 1, 2}},
		// -2, -2, -1; 0 and 0, for a step both to and from 1 counts once; 2.
		{3, roads(step{0, 1, 1}, step{0, 2, 2}, step{1, 0, 1}), 9, []int{0, 1, 2}},
		// 2 to 1 by 0 is spared by the step, which is as long: -2 each; 0 and 0; 2.
		{3, hop, 9, []int{0, 1, 2}},
		{3, hop, 2, []int{0, 1, 2}},
		// It isn't, by searches of fewer than 2: -1, -2, -2; 0 has lost a step: 0 and 0; 2.
		{3, hop, 1, []int{1, 0, 2}},
		{3, hop, 0, []int{1, 0, 2}},
		{3, hop, -1, []int{1, 0, 2}},
		{3, hop, math.MinInt, []int{1, 0, 2}},
		{3, hop, math.MaxInt, []int{0, 1, 2}},
		// Closed, it spares nothing: -1, -1, -1; 2 to 1 comes with the contraction of 0: 0 and 0; 2.
		{3, append(slices.Clone(hop[:2]), closed(2, 1, 3)), 9, []int{0, 1, 2}},
		// Beside it is an open one that is longer: not spared: -1, -2, -2; 0 and 0; 2. Or one that is shorter: spared.
		{3, append(slices.Clone(hop[:2]), closed(2, 1, 3), open(2, 1, 4), open(2, 1, 5)), 9, []int{1, 0, 2}},
		{3, append(slices.Clone(hop[:2]), open(2, 1, 4), open(2, 1, 3), closed(2, 1, 1)), 9, []int{0, 1, 2}},
		// Loops change nothing.
		{3, append(slices.Clone(hop), open(0, 0, 1), open(0, 0, 1), open(1, 1, 1)), 1, []int{1, 0, 2}},
		// -2, -2, -2, -1: 0 is contracted, and 3 to 1 comes; -1, 0, 0; 3 is counted by 1 for that: 2 and 2.
		{4, roads(step{0, 1, 1}, step{2, 0, 3}, step{2, 1, 1}, step{3, 0, 2}), 9, []int{0, 1, 2, 3}},
		// 1 to 2 by 0 is spared by 1, 3, 2, a search of 3: -2, -2, -2, -1; then -1, -1 and -1; then 2 costs 1, 3 costs 0.
		{4, few, 9, []int{0, 1, 3, 2}},
		{4, few, 3, []int{0, 1, 3, 2}},
		// By a search of 2 it isn't: -1, -2, -2, -1; 0, -2 and 0; 2 and 2.
		{4, few, 2, []int{2, 0, 1, 3}},
		// 2 to 3 is Far by 0 as by 1, each spares the other: -2 each; -2, -1, -1; 1 and 1.
		{4, far, 9, []int{0, 1, 2, 3}},
		// By 0 it is Most: not spared by Far: -1, -2, -2, -2; then -1, -1 and -1; 1 and 1.
		{4, append(slices.Clone(far[1:]), open(2, 0, most-1)), 9, []int{1, 0, 2, 3}},
	} {
		g, form := laid(t, c.n, c.arcs...)
		if got := Rank(g, c.settles); !slices.Equal(got, c.want) {
			t.Errorf("P14.2: %d: Rank(%d): %v, want %v", i, c.settles, got, c.want)
		}
		sameRank(t, g, form, c.settles)
	}
}

// Stars with steps both ways between each middle and all others: arms are contracted by rising numbers, ahead of the middle, but for small ones in which the middle costs no more.
func TestStars(t *testing.T) {
	for n := 2; n <= 24; n++ {
		for _, middle := range []int{0, 1, n / 2, n - 1} {
			var steps []step
			var want []int
			for v := range n {
				if v == middle {
					want = append(want, n-1)
					continue
				}
				steps = append(steps, step{middle, v, 7}, step{v, middle, 7})
				want = append(want, v)
				if v > middle {
					want[v] = v - 1
				}
			}
			// Of 2, both cost -2; of 3, all cost -2, and behind the first arm the middle costs -1, the other arm -2.
			if n == 2 || n == 3 && middle == 0 {
				want = perm.Rising(n)
			}
			m, c := made(t, n, steps...)
			g, _ := laid(t, n, roads(steps...)...)
			for _, settles := range []int{-1, 2, n} {
				if need := same(t, m, c, middle, settles); need != (n-1)*(n-2) {
					t.Fatalf("P14.1: a star of %d about %d: Need(%d): %d", n, middle, settles, need)
				}
				if got := Rank(g, settles); !slices.Equal(got, want) {
					t.Fatalf("P14.2: a star of %d about %d: Rank(%d): %v, want %v", n, middle, settles, got, want)
				}
			}
		}
	}
}

// Stars with steps into the middle alone, or out of it: it has no need and the most edges, and comes first, then the others, which have lost a step each.
func TestOneWayStars(t *testing.T) {
	for n := 3; n <= 24; n++ {
		for middle := range n {
			var in, out []step
			var want []int
			for v := range n {
				switch {
				case v == middle:
					want = append(want, 0)
					continue
				case v < middle:
					want = append(want, v+1)
				default:
					want = append(want, v)
				}
				in, out = append(in, step{v, middle, 7}), append(out, step{middle, v, 7})
			}
			for _, steps := range [][]step{in, out} {
				g, _ := laid(t, n, roads(steps...)...)
				for _, settles := range []int{-1, 0, 2, n} {
					if got := Rank(g, settles); !slices.Equal(got, want) {
						t.Fatalf("P14.2: %v: Rank(%d): %v, want %v", steps, settles, got, want)
					}
				}
			}
		}
	}
}

// Graphs without steps, of each number of vertices, by arcs that are none, loops or closed: rising numbers.
func TestBare(t *testing.T) {
	for n := 1; n <= 24; n++ {
		var loops, shut []api.Arc
		for v := range n {
			loops = append(loops, open(v, v, 1+v))
			shut = append(shut, closed(v, (v+1)%n, 1), closed((v+1)%n, v, most))
		}
		for _, arcs := range [][]api.Arc{nil, loops, shut, append(loops, shut[:n]...)} {
			g, _ := laid(t, n, arcs...)
			for _, settles := range edgeSettles(n) {
				if got := Rank(g, settles); !slices.Equal(got, perm.Rising(n)) {
					t.Fatalf("P14.2: of %d, %v: Rank(%d): %v", n, arcs, settles, got)
				}
			}
		}
	}
}

// All meshes, and all graphs, of 3 vertices with steps of these lengths, or without: all numbers of vertices.
func TestAllSmall(t *testing.T) {
	lengths := []int{1, 2, most, none}
	ends := [][2]int{{0, 1}, {1, 0}, {0, 2}, {2, 0}, {1, 2}, {2, 1}}
	for number := range 4096 {
		var steps []step
		var arcs []api.Arc
		for _, e := range ends {
			long := lengths[number%4]
			number /= 4
			steps = append(steps, step{e[0], e[1], long})
			if long != none {
				arcs = append(arcs, open(e[0], e[1], long))
			}
		}
		m, c := made(t, 3, steps...)
		g, r := laid(t, 3, arcs...)
		for settles := range 5 {
			for v := range 3 {
				same(t, m, c, v, settles)
			}
			sameRank(t, g, r, settles)
		}
	}
}

// All graphs of 4 vertices with these arcs, or without; lengths are such that some detours are longer than others, some just as long.
func TestAllOfFour(t *testing.T) {
	arcs := roads(
		step{0, 1, 1}, step{1, 0, 2}, step{0, 2, 3}, step{2, 0, 1}, step{0, 3, 2}, step{3, 0, 2},
		step{1, 2, 2}, step{2, 1, 3}, step{1, 3, 1}, step{3, 1, 1}, step{2, 3, 1}, step{3, 2, 4},
	)
	for number := range 4096 {
		var some []api.Arc
		for i, a := range arcs {
			if number>>i%2 == 1 {
				some = append(some, a)
			}
		}
		g, c := laid(t, 4, some...)
		for settles := range 5 {
			sameRank(t, g, c, settles)
		}
	}
}

// Meshes that look like chance, of each number of vertices, with searches of each number: the more a search may settle, the less is needed; one that may settle no other vertex spares nothing; a difference is the need less the edges.
func TestManyMeshes(t *testing.T) {
	d := dice(14)
	lengths := d.lengths()
	some, others := 0, 0
	for n := 1; n <= 24; n++ {
		for _, length := range lengths {
			m, c := d.filled(t, n, 1+d.below(7), length)
			for range 1 + 12/n {
				v, was := d.below(n), 0
				for settles := -1; settles <= n+1; settles++ {
					need := same(t, m, c, v, settles)
					if all := len(m.Detours(v)); settles < 2 && need != all || settles >= 2 && need > was {
						t.Fatalf("P14.1: of %d, %v: Need(%d, %d): %d of %d, was %d", n, c.steps(), v, settles, need, all, was)
					}
					was = need
				}
				if all := len(m.Detours(v)); was > 0 && was < all {
					some++
				} else if all > 0 {
					others++
				}
			}
		}
	}
	if some < 50 || others < 50 {
		t.Errorf("some detours of a vertex are spared %d times, all or none %d times", some, others)
	}
}

// Graphs that look like chance, of each number of vertices, some with few arcs, some with many.
func TestManyGraphs(t *testing.T) {
	d := dice(1414)
	lengths := d.lengths()
	bySettles, byNumber := 0, 0
	for n := 1; n <= 24; n++ {
		for round, length := range lengths {
			g, c := d.town(t, n, 1+d.below(64), length)
			few := sameRank(t, g, c, 2+d.below(3))
			many := sameRank(t, g, c, n+d.below(2))
			none := sameRank(t, g, c, d.below(2))
			if !slices.Equal(few, many) || !slices.Equal(many, none) {
				bySettles++
			}
			if !slices.Equal(many, perm.Rising(n)) {
				byNumber++
			}
			g, c = d.town(t, n, 64-round, length)
			sameRank(t, g, c, d.below(n+2))
		}
	}
	if bySettles < 50 || byNumber < 100 {
		t.Errorf("orders hang on how many may be settled %d times, aren't by rising numbers %d times", bySettles, byNumber)
	}
}

// Small graphs that look like chance: of 4 to 7 vertices, where like costs are frequent.
func TestManySmallGraphs(t *testing.T) {
	d := dice(747)
	lengths := d.lengths()
	for i := range 6000 {
		n := 4 + i%4
		g, c := d.town(t, n, n+d.below(2*n), lengths[i%len(lengths)])
		sameRank(t, g, c, d.below(n+1))
	}
}

// A vertex all of whose steps lead to one other vertex, or come from that one, has no need, whatever steps the others have, and however few vertices the searches may settle; nor has one with no step at all, or one from which all lead, or to which all do.
func TestNoNeed(t *testing.T) {
	d := dice(143)
	lengths := d.lengths()
	for n := 1; n <= 24; n++ {
		for _, length := range lengths {
			for kind := range 6 {
				m, c := d.filled(t, n, 1+d.below(8), length)
				v, other := []int{0, n - 1, d.below(n)}[d.below(3)], d.below(n)
				edges := 0
				for x := range n {
					from := kind == 4 || x == other && (kind == 1 || kind == 3)
					to := kind == 5 || x == other && (kind == 2 || kind == 3)
					for _, s := range []struct {
						keep bool
						ends [2]int
					}{{from, [2]int{v, x}}, {to, [2]int{x, v}}} {
						if x == v {
							continue
						}
						long := none
						if s.keep {
							long = []int{1, length(), most, far}[d.below(4)]
							edges++
						}
						m.Put(s.ends[0], s.ends[1], long)
						c.put(s.ends[0], s.ends[1], long)
					}
				}
				for _, settles := range []int{math.MinInt, -1, 0, 1, 2, n, math.MaxInt} {
					if need, code := Need(m, v, settles); need != 0 || code != api.OK {
						t.Fatalf("P14.3: of %d, %v: Need(%d, %d): %d, %d", n, c.steps(), v, settles, need, code)
					}
					if difference, code := Difference(m, v, settles); difference != -edges || code != api.OK {
						t.Fatalf("P14.3: of %d, %v: Difference(%d, %d): %d, %d, of %d edges", n, c.steps(), v, settles, difference, code, edges)
					}
				}
			}
		}
	}
}

// What is answered hangs on the mesh as it is: steps that come, change and go, and vertices that are contracted, are in what is answered next.
func TestMeshChanges(t *testing.T) {
	d := dice(17)
	for _, n := range []int{2, 3, 5, 24} {
		m, c := d.filled(t, n, 3, func() int { return 1 + d.below(9) })
		for range 150 {
			u, w := d.below(n), d.below(n)
			if u == w {
				m.Contract(u)
				*c = c.contracted(u)
			} else {
				long := []int{1 + d.below(9), 1 + d.below(9), most, far, none}[d.below(5)]
				m.Put(u, w, long)
				c.put(u, w, long)
			}
			for _, v := range []int{u, w, d.below(n)} {
				same(t, m, c, v, d.below(n+2))
			}
		}
	}
}

// What is answered hangs on the graph as it is: arcs that come and go, are closed and opened, and become longer or shorter; on nothing else, such as at which places they lie, or what was answered ahead.
func TestGraphChanges(t *testing.T) {
	d := dice(23)
	for _, n := range []int{2, 3, 5, 9, 24} {
		g, _ := d.town(t, n, min(3*n, 50), func() int { return 1 + d.below(9) })
		for range 100 {
			id, weight := d.below(64), 1+d.below(9)
			switch d.below(5) {
			case 0:
				g.Delete(id)
			case 1:
				g.Close(id)
			case 2:
				g.Reopen(id)
			case 3:
				g.Weigh(id, weight)
			case 4:
				g.Insert(id, open(d.below(n), d.below(n), weight))
			}
			var arcs []api.Arc
			for _, id := range slices.Backward(g.Ids()) {
				a, _ := g.Arc(id)
				arcs = append(arcs, a)
			}
			settles := d.below(n + 1)
			other, c := laid(t, n, arcs...)
			first, second, elsewhere := sameRank(t, g, c, settles), Rank(g, settles), Rank(other, settles)
			if !slices.Equal(first, second) || !slices.Equal(first, elsewhere) {
				t.Fatalf("P14.2: of %d, %v: Rank(%d): %v, once more %v, at other places %v", n, c.steps(), settles, first, second, elsewhere)
			}
		}
	}
}

// The mesh and the graph stay as they are.
func TestStay(t *testing.T) {
	d := dice(31)
	for _, n := range []int{1, 2, 24} {
		m, _ := d.filled(t, n, 4, func() int { return 1 + d.below(9) })
		g, _ := d.town(t, n, 64, func() int { return 1 + d.below(9) })
		mesh, graph := *m, *g
		for _, settles := range edgeSettles(n) {
			Need(m, d.below(n), settles)
			Difference(m, d.below(n), settles)
			Rank(g, settles)
		}
		if *m != mesh {
			t.Errorf("P14.1: of %d: the mesh isn't as it was", n)
		}
		if *g != graph {
			t.Errorf("P14.2: of %d: the graph isn't as it was", n)
		}
	}
}

// An order that is answered can be written into: neither another one nor what is answered later changes by that; nor does it, when the graph changes.
func TestOwn(t *testing.T) {
	d := dice(37)
	for _, n := range []int{1, 2, 3, 24} {
		g, c := d.town(t, n, 40, func() int { return 1 + d.below(9) })
		first, second := Rank(g, n), Rank(g, n)
		want := c.rank(n)
		for i := range first {
			first[i] = -9
		}
		_ = append(first[:0], slices.Repeat([]int{-8}, cap(first))...)
		if !slices.Equal(second, want) {
			t.Errorf("P14.2: of %d: an answer is written over, the other one is %v, want %v", n, second, want)
		}
		sameRank(t, g, c, n)
		for id := range 64 {
			g.Delete(id)
		}
		if !slices.Equal(second, want) {
			t.Errorf("P14.2: of %d: the graph has changed, an answer ahead of that is %v, want %v", n, second, want)
		}
		if got := Rank(g, n); !slices.Equal(got, perm.Rising(n)) {
			t.Errorf("P14.2: of %d: no arc is left: Rank: %v", n, got)
		}
	}
}

// The least of things of other kinds, and of none.
func TestLeast(t *testing.T) {
	for _, c := range []struct {
		words []string
		want  string
	}{
		{nil, ""},
		{[]string{"one"}, "one"},
		{[]string{"three", "one", "two", "four"}, "one"},
		{[]string{"three", "four", "five", "seven"}, "four"},
	} {
		asked := 0
		got := least(slices.Values(c.words), func(s string) int {
			asked++
			return len(s) - 9
		})
		if got != c.want || asked != len(c.words) {
			t.Errorf("P14.2: the least of %v: %q, asked %d times", c.words, got, asked)
		}
	}
}
