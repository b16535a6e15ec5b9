package mesh

import (
	"fmt"
	"iter"
	"maps"
	"math"
	"slices"
	"testing"

	"ringroad/api"
	"ringroad/graph"
	"ringroad/near"
)

const most, far, none = api.Most, api.Far, api.None

// noVertices are numbers of no vertex of n, though some look like one by their last bits.
func noVertices(n int) []int {
	return []int{
		math.MinInt, math.MinInt + 1, math.MinInt32, -1 << 32, -256, -64, -24, -n, -2, -1,
		n, n + 1, n + 24, n + 64, n + 256, math.MaxInt32, 1 << 32, 1<<32 + n - 1, math.MaxInt - 1, math.MaxInt,
	}
}

// wrongLengths are those that may not be.
var wrongLengths = []int{
	math.MinInt, math.MinInt + 1, -none, -far, -most, math.MinInt32, -2, -1, 0,
	none + 1, none + 2, 2*(most-1) + 1, math.MaxInt - 1, math.MaxInt,
}

// rightLengths are some that may be, at the edges and between.
var rightLengths = []int{1, 2, 3, 7, 255, 256, math.MaxInt32, 1 << 32, most / 2, most - 1, most, far, none}

// tooFar is what is longer than all that is told, where the tests' own form adds.
const tooFar = uint64(1)<<62 + 1

// sheet is a mesh as the chapter tells it, in a form of the tests' own: how long each step is that there is.
type sheet struct {
	n    int
	long map[[2]int]uint64
}

func newSheet(n int) *sheet { return &sheet{n, map[[2]int]uint64{}} }

func (s *sheet) copied() *sheet { return &sheet{s.n, maps.Clone(s.long)} }

func (s *sheet) at(u, w int) int {
	if d, there := s.long[[2]int{u, w}]; there {
		return int(d)
	}
	return none
}

// put: a step that may be.
func (s *sheet) put(u, w, long int) {
	delete(s.long, [2]int{u, w})
	if long != none {
		s.long[[2]int{u, w}] = uint64(long)
	}
}

// pair is a vertex, and how long a step is.
type pair struct{ v, long int }

// row: the other ends of steps, rising, each with how long it is.
func (s *sheet) row(at func(v int) int) []pair {
	var out []pair
	for v := range s.n {
		if d := at(v); d != none {
			out = append(out, pair{v, d})
		}
	}
	return out
}

func (s *sheet) out(v int) []pair { return s.row(func(w int) int { return s.at(v, w) }) }

func (s *sheet) in(v int) []pair { return s.row(func(u int) int { return s.at(u, v) }) }

// detour: a link as the chapter tells it.
func detour(u, v, w, long int) api.Link {
	return api.Link{Tail: u, Head: w, Entry: api.Entry{Weight: long, Arc: -1, Mid: v}}
}

// detours: of each two vertices that are unlike each other and v, in turn.
func (s *sheet) detours(v int) []api.Link {
	var l []api.Link
	for u := range s.n {
		for w := range s.n {
			to, a := s.long[[2]int{u, v}]
			from, b := s.long[[2]int{v, w}]
			if a && b && u != v && w != v && u != w {
				l = append(l, detour(u, v, w, int(min(to+from, tooFar))))
			}
		}
	}
	return l
}

// contract: takes a vertex out; how many steps are less now.
func (s *sheet) contract(v int) int {
	count, next := 0, newSheet(s.n)
	for _, d := range s.detours(v) {
		if d.Entry.Weight < s.at(d.Tail, d.Head) {
			next.put(d.Tail, d.Head, d.Entry.Weight)
			count++
		}
	}
	for ends, d := range s.long {
		if _, less := next.long[ends]; !less && ends[0] != v && ends[1] != v {
			next.long[ends] = d
		}
	}
	s.long = next.long
	return count
}

// step is one as it is put: from where, to where, how long.
type step [3]int

// made: a mesh, and its sheet, with these steps, all of which may be.
func made(t *testing.T, n int, steps ...step) (*Mesh, *sheet) {
	t.Helper()
	m, code := New(n)
	if m == nil || code != api.OK {
		t.Fatalf("P12.1: New(%d): %v, %d", n, m, code)
	}
	s := newSheet(n)
	for _, x := range steps {
		if code := m.Put(x[0], x[1], x[2]); code != api.OK {
			t.Fatalf("P12.1: Put(%v): %d", x, code)
		}
		s.put(x[0], x[1], x[2])
	}
	return m, s
}

// contracted: takes a vertex out of both, which must tell the same count.
func contracted(t *testing.T, what string, m *Mesh, s *sheet, v int) {
	t.Helper()
	want := s.contract(v)
	if got, code := m.Contract(v); got != want || code != api.OK {
		t.Fatalf("P12.3: %s: Contract(%d): %d, %d, want %d", what, v, got, code, want)
	}
}

// gone: all that an iterator goes through.
func gone(seq iter.Seq2[int, int]) []pair {
	var l []pair
	for v, long := range seq {
		l = append(l, pair{v, long})
	}
	return l
}

// same: is all that the mesh tells what the sheet does, of each vertex and of some that there aren't?
func same(t *testing.T, what string, m *Mesh, s *sheet) {
	t.Helper()
	if got := m.Vertices(); got != s.n {
		t.Fatalf("P12.1: %s: Vertices: %d, want %d", what, got, s.n)
	}
	for v := -1; v <= s.n; v++ {
		for w := -1; w <= s.n; w++ {
			if got, want := m.At(v, w), s.at(v, w); got != want {
				t.Fatalf("P12.2: %s: At(%d, %d): %d, want %d", what, v, w, got, want)
			}
		}
		if got, want := gone(m.Out(v)), s.out(v); !slices.Equal(got, want) {
			t.Fatalf("P12.2: %s: Out(%d): %v, want %v", what, v, got, want)
		}
		if got, want := gone(m.In(v)), s.in(v); !slices.Equal(got, want) {
			t.Fatalf("P12.2: %s: In(%d): %v, want %v", what, v, got, want)
		}
		if got, want := m.Detours(v), s.detours(v); !slices.Equal(got, want) {
			t.Fatalf("P12.2: %s: Detours(%d): %v, want %v", what, v, got, want)
		}
	}
}

// plus: two lengths behind each other.
func plus(a, b uint64) uint64 {
	if a == none || b == none {
		return none
	}
	return min(a+b, tooFar)
}

// fars: how far it is, by any steps, from each vertex to each other one: the tests' own form, by one vertex more between in each round.
func fars(m *Mesh) [24][24]uint64 {
	var f [24][24]uint64
	n := m.Vertices()
	for u := range n {
		for w := range n {
			f[u][w] = uint64(m.At(u, w))
		}
		f[u][u] = 0
	}
	for v := range n {
		for u := range n {
			for w := range n {
				f[u][w] = min(f[u][w], plus(f[u][v], f[v][w]))
			}
		}
	}
	return f
}

// asFar: is it as far as before, from each vertex that is left to each other one?
func asFar(t *testing.T, what string, m *Mesh, was [24][24]uint64, left []int) {
	t.Helper()
	is := fars(m)
	for _, u := range left {
		for _, w := range left {
			if is[u][w] != was[u][w] {
				t.Fatalf("P12.4: %s: from %d to %d it is %d far, was %d", what, u, w, is[u][w], was[u][w])
			}
		}
	}
}

// without: the vertices 0 to n - 1 but v.
func without(n, v int) []int {
	var left []int
	for u := range n {
		if u != v {
			left = append(left, u)
		}
	}
	return left
}

// dice are numbers that look like chance and are the same each time.
type dice uint64

func (d *dice) next() uint64 {
	*d = *d*6364136223846793005 + 1442695040888963407
	return uint64(*d>>32) | uint64(*d<<32)
}

func (d *dice) below(n int) int { return int(d.next() % uint64(n)) }

// lengths: ways to throw lengths: often alike, rarely alike, such that two come to just about Most, about Most each, and of all sizes.
func (d *dice) lengths() []func() int {
	return []func() int{
		func() int { return 1 + d.below(3) },
		func() int { return 1 + d.below(1000) },
		func() int { return most/2 - 1 + d.below(3) },
		func() int { return far - d.below(3) },
		func() int { return 1 + int(d.next()>>(2+d.below(60))) },
	}
}

// filled: a mesh and its sheet with steps that look like chance, so many of 6 of those that there can be.
func (d *dice) filled(t *testing.T, n, many int, length func() int) (*Mesh, *sheet) {
	t.Helper()
	m, s := made(t, n)
	for u := range n {
		for w := range n {
			if u == w || d.below(6) >= many {
				continue
			}
			long := length()
			if code := m.Put(u, w, long); code != api.OK {
				t.Fatalf("P12.1: Put(%d, %d, %d): %d", u, w, long, code)
			}
			s.put(u, w, long)
		}
	}
	return m, s
}

func TestNew(t *testing.T) {
	for n := 1; n <= 24; n++ {
		m, s := made(t, n)
		same(t, "new", m, s)
	}
}

func TestNewWrong(t *testing.T) {
	for _, n := range []int{
		math.MinInt, math.MinInt + 1, math.MinInt32, -1 << 32, -256, -24, -2, -1, 0,
		25, 26, 48, 64, 255, 256, 257, math.MaxInt32, 1 << 32, 1<<32 + 1, 1<<32 + 24, math.MaxInt - 1, math.MaxInt,
	} {
		if m, code := New(n); m != nil || code != api.Arg {
			t.Errorf("P12.1: New(%d): %v, %d", n, m, code)
		}
	}
}

func TestExample(t *testing.T) {
	m, s := made(t, 3, step{0, 1, 2}, step{1, 2, 3}, step{0, 2, 9})
	same(t, "example", m, s)
	if count, code := m.Contract(1); count != 1 || code != api.OK {
		t.Errorf("P12.3: Contract(1): %d, %d", count, code)
	}
	for u := range 3 {
		for w := range 3 {
			want := none
			if u == 0 && w == 2 {
				want = 5
			}
			if got := m.At(u, w); got != want {
				t.Errorf("P12.3: At(%d, %d): %d, want %d", u, w, got, want)
			}
		}
	}
}

// Written out by hand: the steps, the vertex, the detours by it, how many steps are less when it is contracted, and what there is then.
func TestByHand(t *testing.T) {
	for i, c := range []struct {
		n       int
		steps   []step
		v       int
		detours []api.Link
		count   int
		behind  []step
	}{
		// No steps; no steps from or to the vertex; steps one way alone.
		{1, nil, 0, nil, 0, nil},
		{2, nil, 0, nil, 0, nil},
		{24, nil, 23, nil, 0, nil},
		{4, []step{{0, 1, 2}, {1, 2, 3}, {2, 0, 4}}, 3, nil, 0, []step{{0, 1, 2}, {1, 2, 3}, {2, 0, 4}}},
		{3, []step{{0, 1, 2}}, 0, nil, 0, nil},
		{3, []step{{0, 1, 2}}, 1, nil, 0, nil},
		{3, []step{{0, 1, 2}}, 2, nil, 0, []step{{0, 1, 2}}},
		{4, []step{{0, 1, 2}, {2, 1, 2}, {3, 1, 2}, {0, 2, 1}}, 1, nil, 0, []step{{0, 2, 1}}},
		{4, []step{{1, 0, 2}, {1, 2, 2}, {1, 3, 2}, {0, 2, 1}}, 1, nil, 0, []step{{0, 2, 1}}},
		// To a vertex and back is no detour.
		{2, []step{{0, 1, 2}, {1, 0, 3}}, 0, nil, 0, nil},
		{2, []step{{0, 1, 2}, {1, 0, 3}}, 1, nil, 0, nil},
		{24, []step{{0, 23, 2}, {23, 0, 3}}, 23, nil, 0, nil},
		// Where there is no step, where a longer one is, one just longer, as long, just shorter, and shorter.
		{3, []step{{0, 1, 2}, {1, 2, 3}}, 1, []api.Link{detour(0, 1, 2, 5)}, 1, []step{{0, 2, 5}}},
		{3, []step{{0, 1, 2}, {1, 2, 3}, {0, 2, 9}}, 1, []api.Link{detour(0, 1, 2, 5)}, 1, []step{{0, 2, 5}}},
		{3, []step{{0, 1, 2}, {1, 2, 3}, {0, 2, 6}}, 1, []api.Link{detour(0, 1, 2, 5)}, 1, []step{{0, 2, 5}}},
		{3, []step{{0, 1, 2}, {1, 2, 3}, {0, 2, 5}}, 1, []api.Link{detour(0, 1, 2, 5)}, 0, []step{{0, 2, 5}}},
		{3, []step{{0, 1, 2}, {1, 2, 3}, {0, 2, 4}}, 1, []api.Link{detour(0, 1, 2, 5)}, 0, []step{{0, 2, 4}}},
		{3, []step{{0, 1, 2}, {1, 2, 3}, {0, 2, 1}}, 1, []api.Link{detour(0, 1, 2, 5)}, 0, []step{{0, 2, 1}}},
		// The step the other way stays as it is.
		{3, []step{{0, 1, 2}, {1, 2, 3}, {2, 0, 9}}, 1, []api.Link{detour(0, 1, 2, 5)}, 1, []step{{0, 2, 5}, {2, 0, 9}}},
		// By the first vertex, and by the last one; from and to both.
		{3, []step{{1, 0, 2}, {0, 2, 3}}, 0, []api.Link{detour(1, 0, 2, 5)}, 1, []step{{1, 2, 5}}},
		{3, []step{{1, 2, 2}, {2, 0, 3}}, 2, []api.Link{detour(1, 2, 0, 5)}, 1, []step{{1, 0, 5}}},
		{24, []step{{0, 11, 2}, {11, 23, 3}, {23, 0, 4}}, 11, []api.Link{detour(0, 11, 23, 5)}, 1, []step{{0, 23, 5}, {23, 0, 4}}},
		{24, []step{{1, 0, 2}, {0, 23, 3}, {23, 0, 4}}, 0, []api.Link{detour(1, 0, 23, 5)}, 1, []step{{1, 23, 5}}},
		{24, []step{{22, 23, 2}, {23, 0, 3}, {0, 23, 4}}, 23, []api.Link{detour(22, 23, 0, 5)}, 1, []step{{22, 0, 5}}},
		// Steps both ways: two detours, of unlike lengths.
		{3, []step{{0, 1, 1}, {1, 0, 20}, {1, 2, 3}, {2, 1, 50}}, 1, []api.Link{detour(0, 1, 2, 4), detour(2, 1, 0, 70)}, 2, []step{{0, 2, 4}, {2, 0, 70}}},
		// Several by one vertex: some are less, some are not.
		{5, []step{{0, 2, 1}, {4, 2, 2}, {2, 1, 10}, {2, 3, 20}, {2, 4, 30}, {0, 1, 12}, {0, 3, 21}, {4, 3, 21}, {1, 3, 7}}, 2,
			[]api.Link{detour(0, 2, 1, 11), detour(0, 2, 3, 21), detour(0, 2, 4, 31), detour(4, 2, 1, 12), detour(4, 2, 3, 22)}, 3,
			[]step{{0, 1, 11}, {0, 3, 21}, {0, 4, 31}, {1, 3, 7}, {4, 1, 12}, {4, 3, 21}}},
		// What a detour makes shorter is no part of another one: 0 to 2 by 3 is 9, though then 1 to 2 is less, too.
		{4, []step{{0, 1, 1}, {0, 3, 8}, {1, 3, 2}, {3, 2, 1}, {1, 2, 50}}, 3, []api.Link{detour(0, 3, 2, 9), detour(1, 3, 2, 3)}, 2, []step{{0, 1, 1}, {0, 2, 9}, {1, 2, 3}}},
		// Just Most, and above it.
		{3, []step{{0, 1, 1}, {1, 2, most - 1}}, 1, []api.Link{detour(0, 1, 2, most)}, 1, []step{{0, 2, most}}},
		{3, []step{{0, 1, most / 2}, {1, 2, most / 2}}, 1, []api.Link{detour(0, 1, 2, most)}, 1, []step{{0, 2, most}}},
		{3, []step{{0, 1, most - 1}, {1, 2, 1}, {0, 2, most}}, 1, []api.Link{detour(0, 1, 2, most)}, 0, []step{{0, 2, most}}},
		{3, []step{{0, 1, most - 1}, {1, 2, 1}, {0, 2, far}}, 1, []api.Link{detour(0, 1, 2, most)}, 1, []step{{0, 2, most}}},
		{3, []step{{0, 1, most}, {1, 2, 1}}, 1, []api.Link{detour(0, 1, 2, far)}, 1, []step{{0, 2, far}}},
		{3, []step{{0, 1, 2}, {1, 2, most - 1}, {0, 2, most}}, 1, []api.Link{detour(0, 1, 2, far)}, 0, []step{{0, 2, most}}},
		{3, []step{{0, 1, most}, {1, 2, most}, {0, 2, far}}, 1, []api.Link{detour(0, 1, 2, far)}, 0, []step{{0, 2, far}}},
		// Steps of Far are steps; of None there are none.
		{3, []step{{0, 1, far}, {1, 2, 1}}, 1, []api.Link{detour(0, 1, 2, far)}, 1, []step{{0, 2, far}}},
		{3, []step{{0, 1, 1}, {1, 2, far}, {0, 2, none}}, 1, []api.Link{detour(0, 1, 2, far)}, 1, []step{{0, 2, far}}},
		{3, []step{{0, 1, far}, {1, 2, far}}, 1, []api.Link{detour(0, 1, 2, far)}, 1, []step{{0, 2, far}}},
		{3, []step{{0, 1, far}, {1, 2, far}, {0, 2, far}}, 1, []api.Link{detour(0, 1, 2, far)}, 0, []step{{0, 2, far}}},
		{3, []step{{0, 1, none}, {1, 2, 1}}, 1, nil, 0, nil},
		{3, []step{{0, 1, 1}, {1, 2, none}, {0, 2, 5}}, 1, nil, 0, []step{{0, 2, 5}}},
	} {
		what := fmt.Sprint("by hand ", i)
		m, s := made(t, c.n, c.steps...)
		same(t, what, m, s)
		if got := m.Detours(c.v); !slices.Equal(got, c.detours) {
			t.Errorf("P12.2: %s: Detours(%d): %v, want %v", what, c.v, got, c.detours)
		}
		was := fars(m)
		if count, code := m.Contract(c.v); count != c.count || code != api.OK {
			t.Errorf("P12.3: %s: Contract(%d): %d, %d, want %d", what, c.v, count, code, c.count)
		}
		_, behind := made(t, c.n, c.behind...)
		same(t, what+", contracted", m, behind)
		asFar(t, what, m, was, without(c.n, c.v))
	}
}

// Steps that are put anew: with a lesser length, a greater one, the same one, and None, which there may be none of to take.
func TestPutAnew(t *testing.T) {
	for _, ends := range [][3]int{{2, 0, 1}, {2, 1, 0}, {3, 0, 2}, {3, 1, 2}, {24, 0, 23}, {24, 23, 0}, {24, 11, 12}, {24, 22, 23}} {
		n, u, w := ends[0], ends[1], ends[2]
		m, s := made(t, n)
		for _, first := range rightLengths {
			for _, then := range rightLengths {
				for _, long := range []int{first, then, then} {
					if code := m.Put(u, w, long); code != api.OK {
						t.Fatalf("P12.1: of %d: Put(%d, %d, %d): %d", n, u, w, long, code)
					}
					s.put(u, w, long)
					if got := m.At(u, w); got != long {
						t.Fatalf("P12.2: of %d: %d is put: At(%d, %d): %d", n, long, u, w, got)
					}
				}
			}
		}
		for _, long := range rightLengths {
			m.Put(u, w, long)
			s.put(u, w, long)
			same(t, fmt.Sprintf("of %d: %d to %d is %d", n, u, w, long), m, s)
		}
	}
}

// What may not be put is answered with Arg, alone and with what else may not be, and changes nothing.
func TestPutWrong(t *testing.T) {
	for _, n := range []int{1, 2, 5, 24} {
		d := dice(n)
		m, s := d.filled(t, n, 5, func() int { return 1 + d.below(9) })
		was := *m
		wrong := func(u, w, long int) {
			t.Helper()
			if code := m.Put(u, w, long); code != api.Arg || *m != was {
				t.Fatalf("P12.1: of %d: Put(%d, %d, %d): %d, the mesh is as it was: %v", n, u, w, long, code, *m == was)
			}
		}
		for _, long := range append(slices.Clone(wrongLengths), rightLengths...) {
			for v := range n {
				wrong(v, v, long)
				for _, x := range noVertices(n) {
					wrong(v, x, long)
					wrong(x, v, long)
				}
			}
			for _, x := range noVertices(n) {
				for _, y := range noVertices(n) {
					wrong(x, y, long)
				}
			}
		}
		for _, long := range wrongLengths {
			for u := range n {
				for w := range n {
					wrong(u, w, long)
				}
			}
		}
		same(t, "what is wrong was put", m, s)
	}
}

// Of a vertex that is none nothing is told, and none is contracted.
func TestNoVertices(t *testing.T) {
	for _, n := range []int{1, 2, 5, 24} {
		d := dice(n)
		m, s := d.filled(t, n, 6, func() int { return 1 + d.below(9) })
		was := *m
		for _, x := range noVertices(n) {
			if l := gone(m.Out(x)); len(l) != 0 {
				t.Errorf("P12.2: of %d: Out(%d): %v", n, x, l)
			}
			if l := gone(m.In(x)); len(l) != 0 {
				t.Errorf("P12.2: of %d: In(%d): %v", n, x, l)
			}
			if l := m.Detours(x); len(l) != 0 {
				t.Errorf("P12.2: of %d: Detours(%d): %v", n, x, l)
			}
			if count, code := m.Contract(x); count != 0 || code != api.Arg || *m != was {
				t.Errorf("P12.3: of %d: Contract(%d): %d, %d, the mesh is as it was: %v", n, x, count, code, *m == was)
			}
			for v := range n {
				if a, b := m.At(v, x), m.At(x, v); a != none || b != none {
					t.Errorf("P12.2: of %d: At(%d, %d): %d, the other way %d", n, v, x, a, b)
				}
			}
			for _, y := range noVertices(n) {
				if a := m.At(x, y); a != none {
					t.Errorf("P12.2: of %d: At(%d, %d): %d", n, x, y, a)
				}
			}
		}
		for v := range n {
			if a := m.At(v, v); a != none {
				t.Errorf("P12.2: of %d: At(%d, %d): %d", n, v, v, a)
			}
		}
		same(t, "what is wrong was asked", m, s)
	}
}

// town: a graph with these arcs, all of which may be.
func town(t *testing.T, n int, arcs map[int]api.Arc) *graph.Graph {
	t.Helper()
	g, code := graph.New(n, 64)
	if g == nil || code != api.OK {
		t.Fatalf("P8.1: New(%d, 64): %v, %d", n, g, code)
	}
	for id, a := range arcs {
		if code := g.Insert(id, a); code != api.OK {
			t.Fatalf("P8.1: Insert(%d, %v): %d", id, a, code)
		}
	}
	return g
}

// of: a graph's mesh, and what the chapter says it is: of each two unlike vertices the least weight of the open arcs.
func of(t *testing.T, n int, arcs map[int]api.Arc) (*Mesh, *sheet) {
	t.Helper()
	g := town(t, n, arcs)
	was, s := *g, newSheet(n)
	for _, a := range arcs {
		if a.Tail != a.Head && !a.Closed {
			s.put(a.Tail, a.Head, min(a.Weight, s.at(a.Tail, a.Head)))
		}
	}
	m := Of(g)
	if m == nil {
		t.Fatalf("P12.1: Of: %v", m)
	}
	same(t, fmt.Sprint("of ", arcs), m, s)
	if *g != was {
		t.Fatalf("P12.1: Of: the graph: %v, was %v", *g, was)
	}
	return m, s
}

// Written out by hand: the arcs of a graph, and the steps of its mesh.
func TestOfByHand(t *testing.T) {
	for i, c := range []struct {
		n     int
		arcs  map[int]api.Arc
		steps []step
	}{
		{1, nil, nil},
		{24, nil, nil},
		// One arc, at the first place and at the last one; no step back.
		{2, map[int]api.Arc{0: {Tail: 0, Head: 1, Weight: 1}}, []step{{0, 1, 1}}},
		{24, map[int]api.Arc{63: {Tail: 23, Head: 0, Weight: most}}, []step{{23, 0, most}}},
		{24, map[int]api.Arc{63: {Tail: 0, Head: 23, Weight: most}, 0: {Tail: 23, Head: 0, Weight: 1}}, []step{{0, 23, most}, {23, 0, 1}}},
		// An arc from a vertex to itself is no step.
		{1, map[int]api.Arc{0: {Weight: 1}}, nil},
		{2, map[int]api.Arc{0: {Weight: 1}, 1: {Tail: 1, Head: 1, Weight: 2}, 2: {Tail: 0, Head: 1, Weight: 3}}, []step{{0, 1, 3}}},
		// A closed one neither.
		{2, map[int]api.Arc{0: {Tail: 0, Head: 1, Weight: 1, Closed: true}}, nil},
		{2, map[int]api.Arc{0: {Tail: 0, Head: 1, Weight: 1, Closed: true}, 1: {Tail: 1, Head: 0, Weight: 2}}, []step{{1, 0, 2}}},
		// Of several the least, of those that are open.
		{2, map[int]api.Arc{0: {Tail: 0, Head: 1, Weight: 5}, 1: {Tail: 0, Head: 1, Weight: 4}, 2: {Tail: 0, Head: 1, Weight: 6}}, []step{{0, 1, 4}}},
		{2, map[int]api.Arc{0: {Tail: 0, Head: 1, Weight: 5}, 1: {Tail: 0, Head: 1, Weight: 5}}, []step{{0, 1, 5}}},
		{2, map[int]api.Arc{0: {Tail: 0, Head: 1, Weight: 5}, 1: {Tail: 0, Head: 1, Weight: 4, Closed: true}, 2: {Tail: 0, Head: 1, Weight: 6}}, []step{{0, 1, 5}}},
		{2, map[int]api.Arc{0: {Tail: 0, Head: 1, Weight: 5, Closed: true}, 1: {Tail: 0, Head: 1, Weight: 4, Closed: true}}, nil},
		// By arcs one behind the other there is no step.
		{3, map[int]api.Arc{0: {Tail: 0, Head: 1, Weight: 1}, 1: {Tail: 1, Head: 2, Weight: 1}, 2: {Tail: 0, Head: 2, Weight: 9}}, []step{{0, 1, 1}, {1, 2, 1}, {0, 2, 9}}},
	} {
		m, _ := of(t, c.n, c.arcs)
		_, s := made(t, c.n, c.steps...)
		same(t, fmt.Sprint("of by hand ", i), m, s)
	}
}

// Graphs that look like chance: how far it is by the steps is what layer 10 says of the graph.
func TestOfManyGraphs(t *testing.T) {
	d := dice(8)
	lengths := d.lengths()
	for n := 1; n <= 24; n++ {
		for round := range 20 {
			length, arcs := lengths[round%len(lengths)], map[int]api.Arc{}
			for id := range 64 {
				if d.below(4) <= round/len(lengths) {
					arcs[id] = api.Arc{Tail: d.below(n), Head: d.below(n), Weight: min(length(), most), Closed: d.below(5) == 0}
				}
			}
			m, _ := of(t, n, arcs)
			g, f := town(t, n, arcs), fars(m)
			for u := range n {
				from, _ := near.From(g, u)
				for w := range n {
					if f[u][w] != uint64(from[w]) {
						t.Fatalf("P12.1: of %v: from %d to %d it is %d far, layer 10: %d", arcs, u, w, f[u][w], from[w])
					}
				}
			}
		}
	}
}

// A graph that changes behind the call changes no mesh, and a mesh changes no graph.
func TestOfIsOwn(t *testing.T) {
	arcs := map[int]api.Arc{0: {Tail: 0, Head: 1, Weight: 2}, 1: {Tail: 1, Head: 2, Weight: 3}, 2: {Tail: 2, Head: 0, Weight: 4}, 3: {Tail: 0, Head: 1, Weight: 5, Closed: true}}
	g := town(t, 3, arcs)
	m := Of(g)
	_, s := made(t, 3, step{0, 1, 2}, step{1, 2, 3}, step{2, 0, 4})
	g.Weigh(0, 1)
	g.Close(1)
	g.Delete(2)
	g.Insert(4, api.Arc{Tail: 1, Head: 0, Weight: 6})
	same(t, "the graph has changed", m, s)
	was := *g
	m.Put(0, 1, 7)
	m.Put(2, 1, 8)
	m.Contract(2)
	if *g != was {
		t.Errorf("P12.1: the mesh has changed: the graph: %v, was %v", *g, was)
	}
}

// All meshes of 3 vertices with steps of these lengths, or without, each vertex of which is contracted.
func TestAllSmallMeshes(t *testing.T) {
	lengths := []int{1, 2, most, far, none}
	ends := [][2]int{{0, 1}, {1, 0}, {0, 2}, {2, 0}, {1, 2}, {2, 1}}
	for number := range 15625 {
		var steps []step
		for _, e := range ends {
			steps = append(steps, step{e[0], e[1], lengths[number%5]})
			number /= 5
		}
		m, s := made(t, 3, steps...)
		same(t, "small", m, s)
		was := fars(m)
		for v := range 3 {
			c, after := m.Copy(), s.copied()
			what := fmt.Sprintf("small %v, %d contracted", steps, v)
			contracted(t, what, c, after, v)
			same(t, what, c, after)
			asFar(t, what, c, was, without(3, v))
		}
	}
}

// orders: all orders of these vertices.
func orders(vertices []int) [][]int {
	if len(vertices) == 0 {
		return [][]int{nil}
	}
	var all [][]int
	for i, v := range vertices {
		rest := append(slices.Clone(vertices[:i]), vertices[i+1:]...)
		for _, o := range orders(rest) {
			all = append(all, append([]int{v}, o...))
		}
	}
	return all
}

// contractAll: the vertices of an order in turn, till two are left: it is as far as before between those that are left, at each time, and between the last two by one step.
func contractAll(t *testing.T, m *Mesh, s *sheet, order []int) {
	t.Helper()
	was := fars(m)
	for i, v := range order[:len(order)-2] {
		what := fmt.Sprintf("%v of %v", order[:i+1], s.long)
		contracted(t, what, m, s, v)
		same(t, what, m, s)
		asFar(t, what, m, was, order[i+1:])
		if l := append(gone(m.Out(v)), gone(m.In(v))...); len(l) > 0 || len(m.Detours(v)) > 0 {
			t.Fatalf("P12.3: %s: steps from and to %d: %v", what, v, l)
		}
	}
	u, w := order[len(order)-2], order[len(order)-1]
	if a, b := m.At(u, w), m.At(w, u); uint64(a) != was[u][w] || uint64(b) != was[w][u] {
		t.Fatalf("P12.4: %v: %d and %d are left: %d and %d, want %d and %d", order, u, w, a, b, was[u][w], was[w][u])
	}
}

// All orders of 5 vertices.
func TestAllOrders(t *testing.T) {
	d := dice(5)
	lengths := d.lengths()
	for round := range 15 {
		m, s := d.filled(t, 5, 2+round/len(lengths)*2, lengths[round%len(lengths)])
		for _, order := range orders([]int{0, 1, 2, 3, 4}) {
			contractAll(t, m.Copy(), s.copied(), order)
		}
	}
}

// Meshes that look like chance, of each number of vertices, contracted by rising numbers, by falling ones, and by chance.
func TestManyMeshes(t *testing.T) {
	d := dice(38)
	lengths := d.lengths()
	met := map[string]int{}
	for n := 2; n <= 24; n++ {
		for round := range 10 {
			m, s := d.filled(t, n, 1+round/len(lengths)*2, lengths[round%len(lengths)])
			same(t, "many", m, s)
			for v := range n {
				for _, x := range m.Detours(v) {
					met[kind(x.Entry.Weight, m.At(x.Tail, x.Head))]++
				}
			}
			rising := without(n, -1)
			falling, chance := slices.Clone(rising), slices.Clone(rising)
			slices.Reverse(falling)
			for i := range chance {
				j := i + d.below(n-i)
				chance[i], chance[j] = chance[j], chance[i]
			}
			order := [][]int{rising, falling, chance}[round%3]
			contractAll(t, m.Copy(), s.copied(), order)
		}
	}
	for _, what := range []string{"shorter", "as long", "longer", "where there is none", "far where there is none", "far and as far"} {
		if met[what] < 100 {
			t.Errorf("a detour that is %s came %d times alone", what, met[what])
		}
	}
}

// kind: what a detour is to the step that is there.
func kind(long, step int) string {
	switch {
	case step == none && long == far:
		return "far where there is none"
	case step == none:
		return "where there is none"
	case step == far && long == far:
		return "far and as far"
	case long < step:
		return "shorter"
	case long > step:
		return "longer"
	}
	return "as long"
}

// Puts, contractions and copies that look like chance, one behind the other, of several meshes.
func TestManyCalls(t *testing.T) {
	d := dice(12)
	lengths := d.lengths()
	for round := range 40 {
		n := []int{1, 2, 3, 5, 24}[round%5]
		m, s := made(t, n)
		for i := range 120 {
			length := lengths[d.below(len(lengths))]
			switch u, w := d.below(n), d.below(n); {
			case d.below(12) == 0:
				contracted(t, "many calls", m, s, u)
			case d.below(12) == 0:
				m = m.Copy()
			case u == w || d.below(8) == 0:
				// It may not be, or takes the step.
				if code := m.Put(u, w, none); (code == api.OK) != (u != w) {
					t.Fatalf("P12.1: Put(%d, %d, %d): %d", u, w, none, code)
				}
				s.put(u, w, none)
			default:
				long := length()
				if code := m.Put(u, w, long); code != api.OK {
					t.Fatalf("P12.1: Put(%d, %d, %d): %d", u, w, long, code)
				}
				s.put(u, w, long)
			}
			if n < 24 || i%30 == 29 {
				same(t, fmt.Sprintf("many calls %d, %d", round, i), m, s)
			}
		}
	}
}

// A vertex that is contracted again has no detours; one to which steps are put again has.
func TestContractedTwice(t *testing.T) {
	m, s := made(t, 4, step{0, 1, 2}, step{1, 2, 3}, step{2, 1, 4}, step{3, 1, 1}, step{0, 2, 9}, step{2, 3, 6})
	contracted(t, "once", m, s, 1)
	same(t, "once", m, s)
	was := *m
	if count, code := m.Contract(1); count != 0 || code != api.OK || *m != was {
		t.Errorf("P12.3: Contract(1) again: %d, %d, the mesh is as it was: %v", count, code, *m == was)
	}
	if got := m.Vertices(); got != 4 {
		t.Errorf("P12.3: Vertices: %d", got)
	}
	for _, x := range []step{{0, 1, 1}, {1, 2, 1}} {
		if code := m.Put(x[0], x[1], x[2]); code != api.OK {
			t.Errorf("P12.1: Put(%v) behind Contract: %d", x, code)
		}
		s.put(x[0], x[1], x[2])
	}
	same(t, "put again", m, s)
	if got, want := m.Detours(1), []api.Link{detour(0, 1, 2, 2)}; !slices.Equal(got, want) {
		t.Errorf("P12.2: put again: Detours(1): %v, want %v", got, want)
	}
	if count, code := m.Contract(1); count != 1 || code != api.OK || m.At(0, 2) != 2 {
		t.Errorf("P12.3: put again: Contract(1): %d, %d, At(0, 2): %d", count, code, m.At(0, 2))
	}
}

// taken: what comes till as many have come as are asked for; nothing may come behind that.
func taken(t *testing.T, seq iter.Seq2[int, int], many int) []pair {
	t.Helper()
	var l []pair
	seq(func(v, long int) bool {
		if len(l) >= many {
			t.Errorf("P12.2: %d are asked for, then comes %d", many, v)
		}
		l = append(l, pair{v, long})
		return len(l) < many
	})
	return l
}

// As long as more are asked for: it can be left behind each, gone through again, and within itself.
func TestGoneThrough(t *testing.T) {
	for _, n := range []int{1, 2, 5, 24} {
		d := dice(n)
		m, s := d.filled(t, n, 4, func() int { return 1 + d.below(99) })
		for v := range n {
			out, in := m.Out(v), m.In(v)
			for _, c := range []struct {
				seq  iter.Seq2[int, int]
				want []pair
			}{{out, s.out(v)}, {in, s.in(v)}} {
				for many := 1; many <= len(c.want); many++ {
					if got := taken(t, c.seq, many); !slices.Equal(got, c.want[:many]) {
						t.Errorf("P12.2: %d of those of %d: %v, want %v", many, v, got, c.want[:many])
					}
				}
				if got := gone(c.seq); !slices.Equal(got, c.want) {
					t.Errorf("P12.2: those of %d again: %v, want %v", v, got, c.want)
				}
				for range c.seq {
					if got := gone(c.seq); !slices.Equal(got, c.want) {
						t.Errorf("P12.2: those of %d within themselves: %v, want %v", v, got, c.want)
					}
				}
			}
		}
		same(t, "gone through", m, s)
	}
}

// A copy is as the mesh was, and goes on by itself, either way.
func TestCopy(t *testing.T) {
	for _, n := range []int{2, 3, 24} {
		d := dice(n)
		m, s := d.filled(t, n, 5, func() int { return 1 + d.below(9) })
		change := func(m *Mesh, s *sheet, long int) {
			for u := range n {
				for w := range n {
					if u != w {
						m.Put(u, w, long+u)
						s.put(u, w, long+u)
					}
				}
			}
			contracted(t, "copy", m, s, n/2)
		}
		c, cs := m.Copy(), s.copied()
		same(t, "copy", c, cs)
		change(c, cs, 20)
		same(t, "the copy has changed: the copy", c, cs)
		same(t, "the copy has changed: the mesh", m, s)
		change(m, s, 50)
		same(t, "the mesh has changed: the mesh", m, s)
		same(t, "the mesh has changed: the copy", c, cs)
		other, os := c.Copy(), cs.copied()
		change(c, cs, 80)
		same(t, "the copy has changed again: its copy", other, os)
		same(t, "the copy has changed again: the mesh", m, s)
		contracted(t, "a copy's copy", other, os, 0)
		same(t, "a copy's copy has changed: the copy", c, cs)
	}
	m, s := made(t, 1)
	same(t, "the copy of one vertex", m.Copy(), s)
}

// What is answered can be written into without changing what is answered later, or what another answer was.
func TestAnswersAreOwn(t *testing.T) {
	m, s := made(t, 4, step{0, 1, 2}, step{3, 1, 3}, step{1, 2, 4}, step{1, 0, 5}, step{1, 3, 6})
	want := s.detours(1)
	first, second := m.Detours(1), m.Detours(1)
	for i := range first {
		first[i] = detour(9, 9, 9, 9)
	}
	_ = append(first, detour(8, 8, 8, 8))
	_ = append(first[:1], detour(7, 7, 7, 7))
	if !slices.Equal(second, want) || len(want) != 4 {
		t.Errorf("P12.2: one answer is written over, the other one was %v", second)
	}
	same(t, "an answer is written over", m, s)
	m.Contract(1)
	if !slices.Equal(second, want) {
		t.Errorf("P12.2: the mesh has changed, an answer ahead of that is %v", second)
	}
}

// Nothing that is asked changes the mesh.
func TestMeshStays(t *testing.T) {
	d := dice(3)
	m, s := d.filled(t, 24, 4, func() int { return 1 + d.below(9) })
	was := *m
	for v := range 24 {
		gone(m.Out(v))
		gone(m.In(v))
		m.Detours(v)
		m.At(v, 23-v)
		m.Vertices()
		m.Copy().Contract(v)
	}
	if *m != was {
		t.Error("P12.2: the mesh isn't as it was")
	}
	same(t, "asked", m, s)
}
