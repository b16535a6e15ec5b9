package witness

import (
	"fmt"
	"math"
	"slices"
	"testing"

	"ringroad/api"
	"ringroad/bits"
	"ringroad/graph"
	"ringroad/mesh"
	"ringroad/near"
)

const most, far, none = api.Most, api.Far, api.None

// noVertices are numbers of no vertex of n, though some look like one by their last bits.
func noVertices(n int) []int {
	return []int{
		math.MinInt, math.MinInt + 1, math.MinInt32, -1 << 32, -256, -64, -24, -n, -2, -1,
		n, n + 1, n + 24, n + 64, n + 256, math.MaxInt32, 1 << 32, 1<<32 + n - 1, math.MaxInt - 1, math.MaxInt,
	}
}

// edgeDists are distances at the edges, and such as count as one of these.
var edgeDists = []int{
	math.MinInt, math.MinInt + 1, -none, -far, -most, math.MinInt32, -2, -1, 0, 1, 2,
	most - 1, most, far, none, none + 1, none + 2, math.MaxInt - 1, math.MaxInt,
}

// edgeSettles are numbers of vertices that may be settled, of n, at the edges.
func edgeSettles(n int) []int {
	return []int{
		math.MinInt, math.MinInt + 1, -1 << 32, -n, -1, 0, 1, 2, n - 1, n, n + 1,
		math.MaxInt32, 1 << 32, 1<<32 + 1, math.MaxInt - 1, math.MaxInt,
	}
}

// all is the set of all numbers that may be in one.
const all = bits.Set(math.MaxUint64)

// step is one as it is put: from where, to where, how long.
type step [3]int

// chart is a mesh in a form of the tests' own: how long each step is, 0 where there is none.
type chart struct {
	n    int
	long [24][24]uint64
}

// made: a mesh, and its chart, with these steps, all of which may be put.
func made(t *testing.T, n int, steps ...step) (*mesh.Mesh, *chart) {
	t.Helper()
	m, code := mesh.New(n)
	if m == nil || code != api.OK {
		t.Fatalf("P12.1: New(%d): %v, %d", n, m, code)
	}
	c := &chart{n: n}
	for _, x := range steps {
		if code := m.Put(x[0], x[1], x[2]); code != api.OK {
			t.Fatalf("P12.1: Put(%v): %d", x, code)
		}
		c.long[x[0]][x[1]] = 0
		if x[2] != none {
			c.long[x[0]][x[1]] = uint64(x[2])
		}
	}
	return m, c
}

// counts: what a distance counts as.
func counts(d int) uint64 { return uint64(max(0, min(d, none))) }

// has: is a vertex in a set?
func has(s bits.Set, v int) bool { return uint64(s)>>v%2 == 1 }

// next: of those that aren't settled, and may be there, the one that is settled next, by the chapter's words: each step from a settled one is looked at, whatever was looked at ahead; -1, if there is none.
func (c *chart) next(f Found, without bits.Set) (int, uint64) {
	best, at := uint64(none), -1
	for v := range c.n {
		if slices.Contains(f.Settled, v) || has(without, v) {
			continue
		}
		for i, u := range f.Settled {
			if long := c.long[u][v]; long > 0 && min(uint64(f.Dists[i])+long, far) < best {
				best, at = min(uint64(f.Dists[i])+long, far), v
			}
		}
	}
	return at, best
}

// touched: what is settled, and what may be there and has a step from a settled one.
func (c *chart) touched(f Found, without bits.Set) bits.Set {
	sum := uint64(0)
	for _, u := range f.Settled {
		sum |= 1 << u
		for v := range c.n {
			if c.long[u][v] > 0 && !has(without, v) {
				sum |= 1 << v
			}
		}
	}
	return bits.Set(sum)
}

// search: what a search from a vertex that may be there finds.
func (c *chart) search(from int, without bits.Set, up, settles int) Found {
	var f Found
	for v, d := from, uint64(0); v >= 0 && d <= counts(up) && len(f.Settled) < settles; v, d = c.next(f, without) {
		f.Settled, f.Dists = append(f.Settled, v), append(f.Dists, int(d))
	}
	f.Touched = c.touched(f, without)
	return f
}

// spared: does the search from u without v, up to as long as the detour is, settle w?
func (c *chart) spared(u, v, w, settles int) bool {
	up := none
	if c.long[u][v] > 0 && c.long[v][w] > 0 {
		up = int(min(c.long[u][v]+c.long[v][w], far))
	}
	return slices.Contains(c.search(u, bits.Set(1)<<v, up, settles).Settled, w)
}

// fars: how far it is from a vertex to each, by any steps to vertices that aren't left out: each round one step more, whatever comes next; none, where there is no way.
func (c *chart) fars(from int, without bits.Set) []uint64 {
	is := slices.Repeat([]uint64{none}, c.n)
	is[from] = 0
	for range c.n {
		for u := range c.n {
			for w := range c.n {
				if c.long[u][w] > 0 && is[u] != none && !has(without, w) {
					is[w] = min(is[w], min(is[u]+c.long[u][w], far))
				}
			}
		}
	}
	return is
}

// alike: did both find the same?
func alike(a, b Found) bool {
	return slices.Equal(a.Settled, b.Settled) && slices.Equal(a.Dists, b.Dists) && a.Touched == b.Touched
}

// same: does Search find what the tests' own form does? What it found.
func same(t *testing.T, m *mesh.Mesh, c *chart, from int, without bits.Set, up, settles int) Found {
	t.Helper()
	want := c.search(from, without, up, settles)
	got, code := Search(m, from, without, up, settles)
	if !alike(got, want) || code != api.OK {
		t.Fatalf("P13.1: of %d, %v: Search(%d, %x, %d, %d): %v, %d, want %v", c.n, c.steps(), from, uint64(without), up, settles, got, code, want)
	}
	return got
}

// sameSpared: does Spared answer what the tests' own form does? What it answered.
func sameSpared(t *testing.T, m *mesh.Mesh, c *chart, u, v, w, settles int) bool {
	t.Helper()
	want := c.spared(u, v, w, settles)
	if got, code := Spared(m, u, v, w, settles); got != want || code != api.OK {
		t.Fatalf("P13.2: of %d, %v: Spared(%d, %d, %d, %d): %v, %d, want %v", c.n, c.steps(), u, v, w, settles, got, code, want)
	}
	return want
}

// steps: all steps, for a message.
func (c *chart) steps() []step {
	var l []step
	for u := range c.n {
		for w := range c.n {
			if c.long[u][w] > 0 {
				l = append(l, step{u, w, int(c.long[u][w])})
			}
		}
	}
	return l
}

// dice are numbers that look like chance and are the same each time.
type dice uint64

func (d *dice) next() uint64 {
	*d = *d*6364136223846793005 + 1442695040888963407
	return uint64(*d>>32) | uint64(*d<<32)
}

func (d *dice) below(n int) int { return int(d.next() % uint64(n)) }

// lengths: ways to throw lengths: often alike, rarely alike, such that two come to just about Most, about Most each, of all sizes, and such that longer ways are often as long as shorter ones.
func (d *dice) lengths() []func() int {
	return []func() int{
		func() int { return 1 + d.below(3) },
		func() int { return 1 + d.below(1000) },
		func() int { return most/2 - 1 + d.below(3) },
		func() int { return far - d.below(3) },
		func() int { return 1 + int(d.next()>>(2+d.below(60))) },
		func() int { return 1 << d.below(4) },
	}
}

// filled: a mesh and its chart with steps that look like chance, so many of 8 of those that there can be.
func (d *dice) filled(t *testing.T, n, many int, length func() int) (*mesh.Mesh, *chart) {
	t.Helper()
	var steps []step
	for u := range n {
		for w := range n {
			if u != w && d.below(8) < many {
				steps = append(steps, step{u, w, length()})
			}
		}
	}
	return made(t, n, steps...)
}

// sets: some that don't have a vertex: of none, of one, of several, of what is no vertex, and of all but the vertex.
func (d *dice) sets(n, from int) []bits.Set {
	l := []bits.Set{0, bits.Below(n), all, all &^ bits.Below(n), bits.Of(d.below(n)), bits.Of(d.below(n), n, 63), bits.Set(d.next() & d.next()), bits.Set(d.next())}
	for i := range l {
		l[i] = l[i].Without(from)
	}
	return l
}

func TestExample(t *testing.T) {
	m, _ := made(t, 3, step{0, 1, 2}, step{1, 2, 3}, step{0, 2, 9})
	want := Found{Settled: []int{0}, Dists: []int{0}, Touched: bits.Of(0, 2)}
	if got, code := Search(m, 0, bits.Of(1), 5, 24); !alike(got, want) || code != api.OK {
		t.Errorf("P13.1: Search: %v, %d, want %v", got, code, want)
	}
	if got, code := Spared(m, 0, 1, 2, 24); got || code != api.OK {
		t.Errorf("P13.2: Spared: %v, %d", got, code)
	}
}

// Written out by hand: what is settled, how far each is, and what is touched.
func TestSearchByHand(t *testing.T) {
	// Steps both ways; several ways of like length to 3; 1 and 2 wait as far; 4 is come to by a longer way first.
	town := []step{{0, 1, 4}, {1, 0, 3}, {0, 2, 4}, {2, 0, 9}, {1, 3, 2}, {2, 3, 2}, {0, 3, 6}, {0, 4, 20}, {3, 4, 5}, {4, 5, 1}, {5, 0, 1}}
	// The last vertex waits as far as the others, and ahead of them.
	star := []step{{11, 23, 7}, {11, 4, 7}, {11, 0, 7}, {11, 22, 7}, {23, 1, 1}, {4, 2, 1}, {0, 3, 1}}
	// Longer and longer, till it is Far, and behind that.
	long := []step{{0, 1, most - 1}, {1, 2, 1}, {2, 3, 1}, {3, 4, 1}, {0, 5, most}, {5, 4, most}, {4, 0, far}, {0, 6, far}}
	for i, c := range []struct {
		n              int
		steps          []step
		from           int
		without        bits.Set
		up, settles    int
		settled, dists []int
		touched        bits.Set
	}{
		// One vertex, and no steps.
		{1, nil, 0, 0, none, 9, []int{0}, []int{0}, bits.Of(0)},
		{1, nil, 0, 0, 0, 1, []int{0}, []int{0}, bits.Of(0)},
		{1, nil, 0, 0, none, 0, nil, nil, 0},
		{2, nil, 1, 0, none, 9, []int{1}, []int{0}, bits.Of(1)},
		{24, nil, 23, 0, none, 99, []int{23}, []int{0}, bits.Of(23)},
		{24, nil, 0, all &^ 1, none, 99, []int{0}, []int{0}, bits.Of(0)},
		// One step, from its beginning, and from its end; it leads to a vertex just as far, one farther, and to one that is left out.
		{2, []step{{0, 1, 7}}, 0, 0, none, 9, []int{0, 1}, []int{0, 7}, bits.Of(0, 1)},
		{2, []step{{0, 1, 7}}, 1, 0, none, 9, []int{1}, []int{0}, bits.Of(1)},
		{2, []step{{0, 1, 7}}, 0, 0, 7, 9, []int{0, 1}, []int{0, 7}, bits.Of(0, 1)},
		{2, []step{{0, 1, 7}}, 0, 0, 6, 9, []int{0}, []int{0}, bits.Of(0, 1)},
		{2, []step{{0, 1, 7}}, 0, 0, 0, 9, []int{0}, []int{0}, bits.Of(0, 1)},
		{2, []step{{0, 1, 1}}, 0, 0, 1, 9, []int{0, 1}, []int{0, 1}, bits.Of(0, 1)},
		{2, []step{{0, 1, 1}}, 0, 0, 0, 9, []int{0}, []int{0}, bits.Of(0, 1)},
		{2, []step{{0, 1, 7}}, 0, 0, none, 1, []int{0}, []int{0}, bits.Of(0, 1)},
		{2, []step{{0, 1, 7}}, 0, 0, none, 2, []int{0, 1}, []int{0, 7}, bits.Of(0, 1)},
		{2, []step{{0, 1, 7}}, 0, bits.Of(1), none, 9, []int{0}, []int{0}, bits.Of(0)},
		{24, []step{{23, 0, 7}}, 23, bits.Of(22, 24, 63), none, 9, []int{23, 0}, []int{0, 7}, bits.Of(0, 23)},
		// A distance counts as one of layer 1.
		{2, []step{{0, 1, 1}}, 0, 0, -1, 9, []int{0}, []int{0}, bits.Of(0, 1)},
		{2, []step{{0, 1, 1}}, 0, 0, math.MinInt, 9, []int{0}, []int{0}, bits.Of(0, 1)},
		{2, []step{{0, 1, far}}, 0, 0, none + 1, 9, []int{0, 1}, []int{0, far}, bits.Of(0, 1)},
		{2, []step{{0, 1, far}}, 0, 0, math.MaxInt, 9, []int{0, 1}, []int{0, far}, bits.Of(0, 1)},
		// How many may be settled counts as 0, if it is less.
		{2, []step{{0, 1, 1}}, 0, 0, none, -1, nil, nil, 0},
		{2, []step{{0, 1, 1}}, 0, 0, none, math.MinInt, nil, nil, 0},
		{2, []step{{0, 1, 1}}, 0, 0, none, 0, nil, nil, 0},
		{2, []step{{0, 1, 1}}, 0, 0, none, math.MaxInt, []int{0, 1}, []int{0, 1}, bits.Of(0, 1)},
		// A step of None is none; one that was taken back is none.
		{3, []step{{0, 1, none}, {0, 2, 5}}, 0, 0, none, 9, []int{0, 2}, []int{0, 5}, bits.Of(0, 2)},
		{3, []step{{0, 1, 3}, {0, 2, 5}, {1, 2, 1}, {0, 1, none}}, 0, 0, none, 9, []int{0, 2}, []int{0, 5}, bits.Of(0, 2)},
		// The town: the least number of those that are as far; the shorter way that comes later; each end of the search.
		{6, town, 0, 0, none, 9, []int{0, 1, 2, 3, 4, 5}, []int{0, 4, 4, 6, 11, 12}, bits.Below(6)},
		{6, town, 0, 0, 11, 9, []int{0, 1, 2, 3, 4}, []int{0, 4, 4, 6, 11}, bits.Below(6)},
		{6, town, 0, 0, 10, 9, []int{0, 1, 2, 3}, []int{0, 4, 4, 6}, bits.Below(5)},
		{6, town, 0, 0, 4, 9, []int{0, 1, 2}, []int{0, 4, 4}, bits.Below(5)},
		{6, town, 0, 0, 3, 9, []int{0}, []int{0}, bits.Below(5)},
		{6, town, 0, 0, none, 2, []int{0, 1}, []int{0, 4}, bits.Below(5)},
		{6, town, 0, 0, none, 5, []int{0, 1, 2, 3, 4}, []int{0, 4, 4, 6, 11}, bits.Below(6)},
		{6, town, 5, 0, none, 9, []int{5, 0, 1, 2, 3, 4}, []int{0, 1, 5, 5, 7, 12}, bits.Below(6)},
		{6, town, 5, 0, none, 1, []int{5}, []int{0}, bits.Of(0, 5)},
		{6, town, 5, 0, none, 2, []int{5, 0}, []int{0, 1}, bits.Below(6)},
		// The town without some: the way round them is longer, or there is none.
		{6, town, 0, bits.Of(1), none, 9, []int{0, 2, 3, 4, 5}, []int{0, 4, 6, 11, 12}, bits.Of(0, 2, 3, 4, 5)},
		{6, town, 0, bits.Of(1, 2), none, 9, []int{0, 3, 4, 5}, []int{0, 6, 11, 12}, bits.Of(0, 3, 4, 5)},
		{6, town, 0, bits.Of(3), none, 9, []int{0, 1, 2, 4, 5}, []int{0, 4, 4, 20, 21}, bits.Of(0, 1, 2, 4, 5)},
		{6, town, 0, bits.Of(4), none, 9, []int{0, 1, 2, 3}, []int{0, 4, 4, 6}, bits.Of(0, 1, 2, 3)},
		{6, town, 0, bits.Of(1, 2, 3, 5, 6, 7, 63), none, 9, []int{0, 4}, []int{0, 20}, bits.Of(0, 4)},
		{6, town, 3, all.Without(3), none, 9, []int{3}, []int{0}, bits.Of(3)},
		{6, town, 4, bits.Of(0), none, 9, []int{4, 5}, []int{0, 1}, bits.Of(4, 5)},
		// The star: rising numbers of those that are as far, and what is behind the first one comes behind the last one.
		{24, star, 11, 0, none, 99, []int{11, 0, 4, 22, 23, 1, 2, 3}, []int{0, 7, 7, 7, 7, 8, 8, 8}, bits.Of(0, 1, 2, 3, 4, 11, 22, 23)},
		{24, star, 11, 0, 7, 99, []int{11, 0, 4, 22, 23}, []int{0, 7, 7, 7, 7}, bits.Of(0, 1, 2, 3, 4, 11, 22, 23)},
		{24, star, 11, 0, none, 3, []int{11, 0, 4}, []int{0, 7, 7}, bits.Of(0, 2, 3, 4, 11, 22, 23)},
		{24, star, 11, bits.Of(0, 23), none, 99, []int{11, 4, 22, 2}, []int{0, 7, 7, 8}, bits.Of(2, 4, 11, 22)},
		// Sums of just Most, and above it; those at Far come by their numbers, a lesser one that is come to later ahead of a greater one.
		{7, long, 0, 0, none, 9, []int{0, 1, 2, 5, 3, 4, 6}, []int{0, most - 1, most, most, far, far, far}, bits.Below(7)},
		{7, long, 0, 0, far, 9, []int{0, 1, 2, 5, 3, 4, 6}, []int{0, most - 1, most, most, far, far, far}, bits.Below(7)},
		{7, long, 0, 0, most, 9, []int{0, 1, 2, 5}, []int{0, most - 1, most, most}, bits.Below(7)},
		{7, long, 0, 0, most - 1, 9, []int{0, 1}, []int{0, most - 1}, bits.Of(0, 1, 2, 5, 6)},
		{7, long, 0, bits.Of(2), none, 9, []int{0, 1, 5, 4, 6}, []int{0, most - 1, most, far, far}, bits.Of(0, 1, 4, 5, 6)},
		{7, long, 0, bits.Of(5), none, 9, []int{0, 1, 2, 3, 4, 6}, []int{0, most - 1, most, far, far, far}, bits.Of(0, 1, 2, 3, 4, 6)},
		{7, long, 4, 0, none, 9, []int{4, 0, 1, 2, 3, 5, 6}, []int{0, far, far, far, far, far, far}, bits.Below(7)},
		{7, long, 4, 0, most, 9, []int{4}, []int{0}, bits.Of(0, 4)},
		{4, []step{{2, 3, far}, {3, 1, 1}, {3, 0, far}, {1, 0, 1}}, 2, 0, none, 3, []int{2, 3, 0}, []int{0, far, far}, bits.Below(4)},
	} {
		m, form := made(t, c.n, c.steps...)
		want := Found{c.settled, c.dists, c.touched}
		if got, code := Search(m, c.from, c.without, c.up, c.settles); !alike(got, want) || code != api.OK {
			t.Errorf("P13.1: %d: Search(%d, %x, %d, %d): %v, %d, want %v", i, c.from, uint64(c.without), c.up, c.settles, got, code, want)
		}
		same(t, m, form, c.from, c.without, c.up, c.settles)
	}
}

// Written out by hand: is a detour spared?
func TestSparedByHand(t *testing.T) {
	// The way round 1 by 3 and 4 is just as long as the detour from 0 to 2 by it.
	round := []step{{0, 1, 5}, {1, 2, 5}, {0, 3, 4}, {3, 4, 4}, {4, 2, 2}}
	for i, c := range []struct {
		n                int
		steps            []step
		u, v, w, settles int
		want             bool
	}{
		// By a step that is shorter, just as long, one longer; by one the other way.
		{3, []step{{0, 1, 2}, {1, 2, 3}, {0, 2, 4}}, 0, 1, 2, 9, true},
		{3, []step{{0, 1, 2}, {1, 2, 3}, {0, 2, 5}}, 0, 1, 2, 9, true},
		{3, []step{{0, 1, 2}, {1, 2, 3}, {0, 2, 6}}, 0, 1, 2, 9, false},
		{3, []step{{0, 1, 2}, {1, 2, 3}}, 0, 1, 2, 9, false},
		{3, []step{{0, 1, 2}, {1, 2, 3}, {2, 0, 1}}, 0, 1, 2, 9, false},
		{24, []step{{23, 0, 2}, {0, 22, 3}, {23, 22, 5}}, 23, 0, 22, 9, true},
		{24, []step{{0, 23, 2}, {23, 1, 3}, {0, 1, 6}}, 0, 23, 1, 9, false},
		// By a way of several steps: just as long, one shorter, one longer; not by one that goes by v.
		{5, round, 0, 1, 2, 9, true},
		{5, append(round, step{0, 3, 3}), 0, 1, 2, 9, true},
		{5, append(round, step{0, 3, 5}), 0, 1, 2, 9, false},
		{5, append(round, step{3, 4, none}), 0, 1, 2, 9, false},
		{5, append(round, step{3, 4, none}, step{3, 1, 1}), 0, 1, 2, 9, false},
		{5, append(round, step{3, 1, 1}, step{1, 4, 1}, step{4, 2, 3}), 0, 1, 2, 9, false},
		// So many vertices that the way is found just so, and one less: 0, 3, 4 and 2 are settled, and nothing else.
		{5, round, 0, 1, 2, 4, true},
		{5, round, 0, 1, 2, 3, false},
		{3, []step{{0, 1, 2}, {1, 2, 3}, {0, 2, 5}}, 0, 1, 2, 2, true},
		{3, []step{{0, 1, 2}, {1, 2, 3}, {0, 2, 5}}, 0, 1, 2, 1, false},
		{3, []step{{0, 1, 2}, {1, 2, 3}, {0, 2, 5}}, 0, 1, 2, 0, false},
		{3, []step{{0, 1, 2}, {1, 2, 3}, {0, 2, 5}}, 0, 1, 2, -1, false},
		{3, []step{{0, 1, 2}, {1, 2, 3}, {0, 2, 5}}, 0, 1, 2, math.MinInt, false},
		{3, []step{{0, 1, 2}, {1, 2, 3}, {0, 2, 5}}, 0, 1, 2, math.MaxInt, true},
		// Others that are as near, or nearer, are settled ahead: the lesser ones of those that are as far, not the greater ones.
		{5, []step{{0, 1, 2}, {1, 3, 3}, {0, 3, 5}, {0, 2, 5}, {0, 4, 5}}, 0, 1, 3, 2, false},
		{5, []step{{0, 1, 2}, {1, 3, 3}, {0, 3, 5}, {0, 2, 5}, {0, 4, 5}}, 0, 1, 3, 3, true},
		{5, []step{{0, 1, 2}, {1, 3, 3}, {0, 3, 5}, {0, 2, 4}, {0, 4, 4}}, 0, 1, 3, 3, false},
		{5, []step{{0, 1, 2}, {1, 3, 3}, {0, 3, 5}, {0, 2, 4}, {0, 4, 4}}, 0, 1, 3, 4, true},
		// There is no detour, for want of the one step, the other one, or both: any way at all spares it, and nothing else.
		{4, []step{{0, 1, 2}, {0, 2, most}}, 0, 1, 2, 9, true},
		{4, []step{{1, 2, 2}, {0, 2, most}}, 0, 1, 2, 9, true},
		{4, []step{{0, 2, far}}, 0, 1, 2, 9, true},
		{4, []step{{0, 3, far}, {3, 2, far}}, 0, 1, 2, 9, true},
		{4, []step{{0, 3, far}, {3, 2, far}}, 0, 1, 2, 2, false},
		{4, []step{{0, 1, 2}}, 0, 1, 2, 9, false},
		{4, []step{{1, 2, 2}}, 0, 1, 2, 9, false},
		{4, []step{{0, 1, 2}, {1, 3, 2}, {3, 2, 2}}, 0, 1, 2, 9, false},
		{3, nil, 2, 1, 0, 9, false},
		// A detour of just Most, and of Far.
		{3, []step{{0, 1, 1}, {1, 2, most - 1}, {0, 2, most}}, 0, 1, 2, 9, true},
		{3, []step{{0, 1, 1}, {1, 2, most - 1}, {0, 2, far}}, 0, 1, 2, 9, false},
		{3, []step{{0, 1, 1}, {1, 2, most - 2}, {0, 2, most}}, 0, 1, 2, 9, false},
		{3, []step{{0, 1, 1}, {1, 2, most}, {0, 2, far}}, 0, 1, 2, 9, true},
		{3, []step{{0, 1, 1}, {1, 2, most}}, 0, 1, 2, 9, false},
		{4, []step{{0, 1, most}, {1, 2, 1}, {0, 3, most}, {3, 2, most}}, 0, 1, 2, 9, true},
		{4, []step{{0, 1, far}, {1, 2, far}, {0, 3, most}, {3, 2, 1}}, 0, 1, 2, 9, true},
		{4, []step{{0, 1, most - 1}, {1, 2, 1}, {0, 3, most}, {3, 2, 1}}, 0, 1, 2, 9, false},
	} {
		m, form := made(t, c.n, c.steps...)
		if got, code := Spared(m, c.u, c.v, c.w, c.settles); got != c.want || code != api.OK {
			t.Errorf("P13.2: %d: Spared(%d, %d, %d, %d): %v, %d", i, c.u, c.v, c.w, c.settles, got, code)
		}
		sameSpared(t, m, form, c.u, c.v, c.w, c.settles)
	}
}

// A search from a vertex that is none, or is left out: Arg, whatever else it is handed, and nothing settled and nothing touched.
func TestSearchWrong(t *testing.T) {
	for _, n := range []int{1, 2, 3, 24} {
		d := dice(n)
		m, _ := d.filled(t, n, 7, func() int { return 1 + d.below(9) })
		was := *m
		wrong := func(from int, without bits.Set) {
			t.Helper()
			for _, up := range edgeDists {
				for _, settles := range edgeSettles(n) {
					f, code := Search(m, from, without, up, settles)
					if len(f.Settled) > 0 || len(f.Dists) > 0 || f.Touched != 0 || code != api.Arg {
						t.Fatalf("P13.1: of %d: Search(%d, %x, %d, %d): %v, %d", n, from, uint64(without), up, settles, f, code)
					}
				}
			}
		}
		for _, from := range noVertices(n) {
			for _, without := range []bits.Set{0, 1, bits.Below(n), all, bits.Of(from)} {
				wrong(from, without)
			}
		}
		for from := range n {
			for _, without := range []bits.Set{bits.Of(from), bits.Of(from, 0, n), bits.Below(n), all} {
				wrong(from, without)
			}
		}
		if *m != was {
			t.Errorf("P13.1: of %d: the mesh isn't as it was", n)
		}
	}
}

// u, v and w of which one, two or all are no vertices, or of which two are one, or all three: Arg, whatever else is handed.
func TestSparedWrong(t *testing.T) {
	for _, n := range []int{1, 2, 3, 24} {
		d := dice(n)
		m, _ := d.filled(t, n, 8, func() int { return 1 + d.below(9) })
		was := *m
		wrong := func(u, v, w int) {
			t.Helper()
			for _, settles := range edgeSettles(n) {
				if got, code := Spared(m, u, v, w, settles); got || code != api.Arg {
					t.Fatalf("P13.2: of %d: Spared(%d, %d, %d, %d): %v, %d", n, u, v, w, settles, got, code)
				}
			}
		}
		for _, x := range noVertices(n) {
			for _, y := range []int{0, n / 2, n - 1, -1, n, x} {
				for _, z := range []int{0, n / 2, n - 1, -1, n, x} {
					wrong(x, y, z)
					wrong(y, x, z)
					wrong(y, z, x)
				}
			}
		}
		for x := range n {
			for y := range n {
				wrong(x, x, y)
				wrong(x, y, x)
				wrong(y, x, x)
			}
		}
		if *m != was {
			t.Errorf("P13.2: of %d: the mesh isn't as it was", n)
		}
	}
}

// All that may be handed to a search of few vertices: each distance and each number of vertices at the edges.
func TestEdges(t *testing.T) {
	for _, n := range []int{1, 2, 24} {
		for round := range 12 {
			d := dice(n + round)
			lengths := d.lengths()
			m, c := d.filled(t, n, 1+round/6*5, lengths[round%6])
			for _, from := range []int{0, n / 2, n - 1} {
				for _, without := range d.sets(n, from) {
					for _, up := range edgeDists {
						for _, settles := range edgeSettles(n) {
							same(t, m, c, from, without, up, settles)
						}
					}
				}
			}
		}
	}
}

// All meshes of 3 vertices with steps of these lengths, or without: each search, and each detour.
func TestAllSmallMeshes(t *testing.T) {
	lengths := []int{1, 2, most, none}
	ends := [][2]int{{0, 1}, {1, 0}, {0, 2}, {2, 0}, {1, 2}, {2, 1}}
	for number := range 4096 {
		var steps []step
		for _, e := range ends {
			steps = append(steps, step{e[0], e[1], lengths[number%4]})
			number /= 4
		}
		m, c := made(t, 3, steps...)
		for from := range 3 {
			for _, without := range []bits.Set{0, bits.Of((from + 1) % 3), bits.Of((from + 2) % 3), all.Without(from)} {
				for _, up := range []int{-1, 0, 1, 2, 3, most, far, none} {
					for settles := range 5 {
						same(t, m, c, from, without, up, settles)
					}
				}
			}
			for settles := range 5 {
				sameSpared(t, m, c, from, (from+1)%3, (from+2)%3, settles)
				sameSpared(t, m, c, from, (from+2)%3, (from+1)%3, settles)
			}
		}
	}
}

// All meshes of 4 vertices with steps as one of these, from 0 and between the others, without steps back to 0: each vertex comes to less again and again.
func TestAllMeshesFromOne(t *testing.T) {
	ends := [][2]int{{0, 1}, {0, 2}, {0, 3}, {1, 2}, {2, 1}, {1, 3}, {3, 1}, {2, 3}, {3, 2}}
	lengths := []int{1, 4, none}
	for number := range 19683 {
		var steps []step
		for _, e := range ends {
			steps = append(steps, step{e[0], e[1], lengths[number%3]})
			number /= 3
		}
		m, c := made(t, 4, steps...)
		same(t, m, c, 0, 0, none, 4)
		for settles := range 4 {
			same(t, m, c, 0, 0, 1+settles, settles)
			same(t, m, c, 0, bits.Of(settles+1), none, settles)
			sameSpared(t, m, c, 0, 1, 2, settles+1)
			sameSpared(t, m, c, 0, 3, 1, settles+1)
		}
	}
}

// begins: is the one the other one's beginning, as far as it goes?
func begins(short, long Found) bool {
	k := len(short.Settled)
	return k <= len(long.Settled) && slices.Equal(short.Settled, long.Settled[:k]) && slices.Equal(short.Dists, long.Dists[:k])
}

// follows: do these searches, by rising numbers, or up to rising distances, each settle what the next one settles first, by rising distances, and touch what it touches?
func follows(t *testing.T, what string, l []Found) {
	t.Helper()
	for i, f := range l {
		if !slices.IsSorted(f.Dists) || len(f.Dists) != len(f.Settled) {
			t.Fatalf("P13.3: %s: %v: not by rising distances", what, f)
		}
		if i > 0 && (!begins(l[i-1], f) || l[i-1].Touched&^f.Touched != 0) {
			t.Fatalf("P13.3: %s: %v, then %v", what, l[i-1], f)
		}
	}
}

// Meshes that look like chance, of each number of vertices: searches that leave out one set or another, up to each distance at which something is settled, one less and one more, and of each number of vertices.
func TestManySearches(t *testing.T) {
	d := dice(41)
	lengths := d.lengths()
	for n := 1; n <= 24; n++ {
		for round, length := range lengths {
			m, c := d.filled(t, n, 1+d.below(7), length)
			for from := range n {
				for i, without := range d.sets(n, from) {
					if (i+from+round)%4 != 0 {
						continue
					}
					whole := same(t, m, c, from, without, none, n)
					ups := []int{-1, 0, 1, most, far, none, none + 1}
					for _, x := range whole.Dists {
						ups = append(ups, x-1, x, x+1)
					}
					slices.Sort(ups)
					var byUp, bySettles []Found
					for _, up := range ups {
						byUp = append(byUp, same(t, m, c, from, without, up, n))
					}
					for settles := -1; settles <= n+1; settles++ {
						bySettles = append(bySettles, same(t, m, c, from, without, none, settles))
						same(t, m, c, from, without, ups[d.below(len(ups))], settles)
					}
					follows(t, fmt.Sprintf("of %d from %d, %v: up to %v", n, from, c.steps(), ups), byUp)
					follows(t, fmt.Sprintf("of %d from %d, %v: by numbers", n, from, c.steps()), bySettles)
				}
			}
		}
	}
}

// How far a search without bounds says that it is to each is how far it is by any steps without those that are left out.
func TestAsFar(t *testing.T) {
	d := dice(5)
	lengths := d.lengths()
	for n := 1; n <= 24; n++ {
		for _, length := range lengths {
			m, c := d.filled(t, n, 1+d.below(7), length)
			for from := range n {
				for _, without := range d.sets(n, from) {
					f, _ := Search(m, from, without, none, n)
					is := slices.Repeat([]uint64{none}, n)
					for i, v := range f.Settled {
						is[v] = uint64(f.Dists[i])
					}
					if want := c.fars(from, without); !slices.Equal(is, want) {
						t.Fatalf("P13.1: of %d, %v: Search(%d, %x): %v, by any steps %v", n, c.steps(), from, uint64(without), is, want)
					}
				}
			}
		}
	}
}

// Of a graph's mesh, a search that leaves out nothing tells how far it is, as layer 10 does.
func TestOfGraphs(t *testing.T) {
	d := dice(10)
	for n := 1; n <= 24; n++ {
		g, code := graph.New(n, 64)
		if g == nil || code != api.OK {
			t.Fatalf("P8.1: New(%d, 64): %d", n, code)
		}
		for id := range 64 {
			g.Insert(id, api.Arc{Tail: d.below(n), Head: d.below(n), Weight: 1 + int(d.next()>>(2+d.below(60))), Closed: d.below(5) == 0})
		}
		m := mesh.Of(g)
		for from := range n {
			want, _ := near.From(g, from)
			f, code := Search(m, from, 0, none, n)
			for i, v := range f.Settled {
				if f.Dists[i] != want[v] {
					t.Fatalf("P13.1: of %d: Search(%d): %v, layer 10: %v", n, from, f, want)
				}
				want[v] = none
			}
			if code != api.OK || slices.Max(want) != none || slices.Min(want) != none {
				t.Fatalf("P13.1: of %d: Search(%d): %v, %d, left %v", n, from, f, code, want)
			}
		}
	}
}

// Detours of meshes that look like chance, with searches of each number of vertices: one of more spares what one of less does; with as many as there are, it is spared just if it is no farther by any steps without v.
func TestManyDetours(t *testing.T) {
	d := dice(13)
	lengths := d.lengths()
	met := map[string]int{}
	for n := 3; n <= 24; n++ {
		for _, length := range lengths {
			m, c := d.filled(t, n, 1+d.below(7), length)
			for range 40 {
				u, v, w := d.below(n), d.below(n), d.below(n)
				if u == v || v == w || u == w {
					continue
				}
				was := false
				for settles := -1; settles <= n+1; settles++ {
					is := sameSpared(t, m, c, u, v, w, settles)
					if was && !is || is && settles < 2 {
						t.Fatalf("P13.3: of %d, %v: Spared(%d, %d, %d, %d): %v", n, c.steps(), u, v, w, settles, is)
					}
					was = is
				}
				by := c.fars(u, bits.Of(v))[w]
				to, from := c.long[u][v], c.long[v][w]
				there := to > 0 && from > 0
				if want := by != none && (!there || by <= min(to+from, far)); was != want {
					t.Fatalf("P13.2: of %d, %v: Spared(%d, %d, %d): %v, by any steps without it is %d far", n, c.steps(), u, v, w, was, by)
				}
				met[fmt.Sprintf("there is a detour %v, as long by other steps %v, spared %v", there, there && by == to+from, was)]++
			}
		}
	}
	for _, what := range []string{
		"there is a detour true, as long by other steps true, spared true", "there is a detour true, as long by other steps false, spared true",
		"there is a detour true, as long by other steps false, spared false", "there is a detour false, as long by other steps false, spared true",
		"there is a detour false, as long by other steps false, spared false",
	} {
		if met[what] < 50 {
			t.Errorf("%s: %d times alone", what, met[what])
		}
	}
}

// A detour is spared just if a search of as many vertices, without v alone, up to as long as layer 12 says that the detour is, settles w.
func TestSparedIsSearch(t *testing.T) {
	d := dice(7)
	lengths := d.lengths()
	for n := 3; n <= 24; n += 3 {
		for _, length := range lengths {
			m, _ := d.filled(t, n, 1+d.below(7), length)
			for v := range n {
				for _, x := range m.Detours(v) {
					settles := 1 + d.below(n)
					f, _ := Search(m, x.Tail, bits.Of(v), x.Entry.Weight, settles)
					want := slices.Contains(f.Settled, x.Head)
					if got, code := Spared(m, x.Tail, v, x.Head, settles); got != want || code != api.OK {
						t.Fatalf("P13.2: Spared(%d, %d, %d, %d): %v, %d, the search: %v", x.Tail, v, x.Head, settles, got, code, f)
					}
				}
			}
		}
	}
}

// A vertex that is taken out with those detours by it alone that aren't spared: it is as far from each other one to each other one as before, however few vertices the searches may settle.
func TestWithoutSpared(t *testing.T) {
	d := dice(99)
	lengths := d.lengths()
	for n := 3; n <= 24; n += 3 {
		for round, length := range lengths {
			m, c := d.filled(t, n, 2+d.below(6), length)
			v, settles := d.below(n), []int{0, 2, 3, n / 2, n}[(round+n)%5]
			after := *c
			for _, x := range m.Detours(v) {
				spared, _ := Spared(m, x.Tail, v, x.Head, settles)
				if old := c.long[x.Tail][x.Head]; !spared && (old == 0 || uint64(x.Entry.Weight) < old) {
					after.long[x.Tail][x.Head] = uint64(x.Entry.Weight)
				}
			}
			for u := range n {
				if u == v {
					continue
				}
				was, is := c.fars(u, 0), after.fars(u, bits.Of(v))
				was[v], is[v] = 0, 0
				if !slices.Equal(was, is) {
					t.Fatalf("P13.2: of %d, %v: %d is taken out: from %d %v, was %v", n, c.steps(), v, u, is, was)
				}
			}
		}
	}
}

// Lines of vertices, rising and falling, of each number of them: each is settled behind the one ahead of it; one that is left out ends the search.
func TestLines(t *testing.T) {
	for n := 1; n <= 24; n++ {
		for _, falling := range []bool{false, true} {
			at := func(i int) int {
				if falling {
					return n - 1 - i
				}
				return i
			}
			var steps []step
			for i := range n - 1 {
				steps = append(steps, step{at(i), at(i + 1), 3}, step{at(i + 1), at(i), 1})
			}
			m, _ := made(t, n, steps...)
			for settles := 1; settles <= n+1; settles++ {
				for up := range 3*n + 1 {
					for out := 1; out <= n; out++ {
						want := Found{}
						for i := 0; i < min(settles, out) && 3*i <= up; i++ {
							want.Settled, want.Dists = append(want.Settled, at(i)), append(want.Dists, 3*i)
						}
						want.Touched = bits.Of(want.Settled...)
						without := bits.Set(0)
						if out < n {
							without = bits.Of(at(out))
						}
						if next := len(want.Settled); next < out {
							want.Touched = want.Touched.With(at(next))
						}
						if f, code := Search(m, at(0), without, up, settles); !alike(f, want) || code != api.OK {
							t.Fatalf("P13.1: a line of %d, falling %v: Search(%d, %x, %d, %d): %v, %d, want %v", n, falling, at(0), uint64(without), up, settles, f, code, want)
						}
					}
				}
			}
		}
	}
}

// Stars, whose middle is each vertex in turn, with arms as long as each other: they are settled by rising numbers, as many as may be.
func TestStars(t *testing.T) {
	for _, n := range []int{2, 3, 24} {
		for middle := range n {
			var steps []step
			for v := n - 1; v >= 0; v-- {
				if v != middle {
					steps = append(steps, step{middle, v, 7})
				}
			}
			m, _ := made(t, n, steps...)
			for out := range n {
				if out == middle {
					continue
				}
				for settles := 1; settles <= n; settles++ {
					want := Found{Settled: []int{middle}, Dists: []int{0}, Touched: bits.Below(n).Without(out)}
					for v := range n {
						if v != middle && v != out && len(want.Settled) < settles {
							want.Settled, want.Dists = append(want.Settled, v), append(want.Dists, 7)
						}
					}
					if f, code := Search(m, middle, bits.Of(out), 7, settles); !alike(f, want) || code != api.OK {
						t.Fatalf("P13.1: a star about %d: Search without %d, of %d: %v, %d, want %v", middle, out, settles, f, code, want)
					}
				}
			}
		}
	}
}

// The mesh stays as it is, and what is answered can be written into without changing what is answered later, or what another answer was.
func TestOwn(t *testing.T) {
	d := dice(3)
	m, c := d.filled(t, 24, 4, func() int { return 1 + d.below(9) })
	was := *m
	first, _ := Search(m, 5, bits.Of(7), none, 24)
	second, _ := Search(m, 5, bits.Of(7), none, 24)
	want := c.search(5, bits.Of(7), none, 24)
	for i := range first.Settled {
		first.Settled[i], first.Dists[i] = -9, -9
	}
	_ = append(first.Settled[:1], -8, -8, -8)
	_ = append(first.Dists[:1], -8, -8, -8)
	_ = append(append(first.Settled, -7), append(first.Dists, -7)...)
	if !alike(second, want) || len(want.Settled) < 20 {
		t.Errorf("P13.1: an answer is written over, the other one was %v, want %v", second, want)
	}
	same(t, m, c, 5, bits.Of(7), none, 24)
	for u := range 24 {
		Search(m, u, bits.Of(23-u), 1+u, u)
		Spared(m, u, (u+1)%24, (u+2)%24, u)
	}
	if *m != was {
		t.Error("P13.1: the mesh isn't as it was")
	}
	m.Contract(5)
	if !alike(second, want) {
		t.Errorf("P13.1: the mesh has changed, an answer ahead of that is %v, want %v", second, want)
	}
}

// What is written into the room behind the one list of an answer isn't in the other one.
func TestListsApart(t *testing.T) {
	m, c := made(t, 5, step{0, 1, 2}, step{1, 2, 3}, step{0, 3, 9})
	f, _ := Search(m, 0, 0, none, 9)
	full := f.Settled[:cap(f.Settled)]
	for i := range full {
		full[i] = -1
	}
	if want := c.search(0, 0, none, 9); !slices.Equal(f.Dists, want.Dists) {
		t.Errorf("P13.1: what is settled is written over: %v, want %v", f.Dists, want.Dists)
	}
}

// What is answered hangs on the mesh as it is: steps that come, change and go, and a vertex that is contracted, are in what is answered next.
func TestMeshChanges(t *testing.T) {
	d := dice(17)
	for _, n := range []int{2, 3, 5, 24} {
		m, c := d.filled(t, n, 3, func() int { return 1 + d.below(9) })
		for i := range 200 {
			u, w := d.below(n), d.below(n)
			if u == w && d.below(6) > 0 {
				continue
			}
			if u == w {
				m.Contract(u)
				c = charted(m)
			} else {
				long := []int{1 + d.below(9), most, far, none}[d.below(4)]
				m.Put(u, w, long)
				c.long[u][w] = 0
				if long != none {
					c.long[u][w] = uint64(long)
				}
			}
			from := d.below(n)
			for _, without := range d.sets(n, from) {
				same(t, m, c, from, without, d.below(20), 1+d.below(n))
				same(t, m, c, from, without, none, 1+i%n)
			}
		}
	}
}

// charted: the chart of a mesh, by what it tells of each two vertices.
func charted(m *mesh.Mesh) *chart {
	c := &chart{n: m.Vertices()}
	for u := range c.n {
		for w := range c.n {
			if long := m.At(u, w); long != none {
				c.long[u][w] = uint64(long)
			}
		}
	}
	return c
}
