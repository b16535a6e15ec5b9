package bits

import (
	"math"
	"slices"
	"testing"
)

// all is the set of all 64 numbers.
const all = Set(math.MaxUint64)

// numbers are those at the edges of what may be in a set, some between, and wrong ones.
var numbers = []int{
	0, 1, 2, 5, 7, 8, 30, 31, 32, 33, 47, 61, 62, 63,
	math.MinInt, math.MinInt + 1, math.MinInt32, -256, -65, -64, -63, -2, -1,
	64, 65, 66, 126, 127, 128, 129, 191, 192, 255, 256, 320, 1 << 32, 1<<32 + 5, math.MaxInt32, math.MaxInt - 1, math.MaxInt,
}

// table is a set told number by number: the tests' own form of it, by division alone.
type table [64]bool

// tableOf: which numbers a set has.
func tableOf(s Set) table {
	var t table
	v := uint64(s)
	for x := range t {
		t[x] = v%2 == 1
		v /= 2
	}
	return t
}

// set: the set that has just these numbers.
func (t table) set() Set {
	v, bit := uint64(0), uint64(1)
	for _, in := range t {
		if in {
			v += bit
		}
		bit *= 2
	}
	return Set(v)
}

// list: its numbers, rising.
func (t table) list() []int {
	var l []int
	for x, in := range t {
		if in {
			l = append(l, x)
		}
	}
	return l
}

// sets are those of none, of all, of each one and each two, of all but one, runs, and mixed ones.
func sets() []Set {
	out := []Set{0, all, 1<<63 | 33, 0x5555555555555555, 0xaaaaaaaaaaaaaaaa, 0x00000000ffffffff, 0xffffffff00000000}
	for x := range 64 {
		var one, rest, run table
		for y := range 64 {
			one[y], rest[y], run[y] = y == x, y != x, y <= x
		}
		out = append(out, one.set(), rest.set(), run.set(), all-run.set())
		for y := range x {
			two := one
			two[y] = true
			out = append(out, two.set())
		}
	}
	v := uint64(20261118)
	for range 500 {
		v = v*6364136223846793005 + 1442695040888963407
		out = append(out, Set(v), Set(v>>32), Set(v&(v<<17)))
	}
	return out
}

func TestOf(t *testing.T) {
	for _, c := range []struct {
		l    []int
		want Set
	}{
		{nil, 0},
		{[]int{}, 0},
		{[]int{0}, 1},
		{[]int{63}, 1 << 63},
		{[]int{2, 0, 64}, 5},
		{[]int{0, 2, 2, 0, 2}, 5},
		{[]int{63, 5, 0, 5, -1, 64}, 1<<63 | 33},
		{[]int{-1}, 0},
		{[]int{64}, 0},
		{[]int{math.MinInt, math.MaxInt}, 0},
		{[]int{math.MinInt, 3, math.MaxInt}, 8},
		{[]int{-64, -1, 64, 65, 127, 128, 1 << 32}, 0},
	} {
		if got := Of(c.l...); got != c.want {
			t.Errorf("P3.1: Of(%v): %d, want %d", c.l, got, c.want)
		}
	}
	if Of() != 0 {
		t.Error("P3.1: Of() is not the set of none")
	}
	var every []int
	for x := -100; x < 200; x++ {
		every = append(every, x)
	}
	if got := Of(every...); got != all {
		t.Errorf("P3.1: Of(-100 to 199): %x", got)
	}
	slices.Reverse(every)
	if got := Of(every...); got != all {
		t.Errorf("P3.1: Of(199 to -100): %x", got)
	}
}

func TestOfTwo(t *testing.T) {
	for _, x := range numbers {
		for _, y := range numbers {
			var want table
			for z := range want {
				want[z] = z == x || z == y
			}
			if got := Of(x, y); got != want.set() {
				t.Errorf("P3.1: Of(%d, %d): %x, want %x", x, y, got, want.set())
			}
		}
	}
}

func TestOfLeavesItsList(t *testing.T) {
	room := []int{9, 64, -1, 9, 3, 77, 78}
	was := slices.Clone(room)
	got := Of(room[:5]...)
	if !slices.Equal(room, was) {
		t.Errorf("rule 3: Of changed what it was handed: %v", room)
	}
	clear(room)
	if got != 1<<9|1<<3 {
		t.Errorf("P3.1: Of(%v): %x", was[:5], got)
	}
}

func TestBelow(t *testing.T) {
	for _, c := range []struct {
		n    int
		want Set
	}{
		{math.MinInt, 0}, {-64, 0}, {-1, 0}, {0, 0}, {1, 1}, {2, 3}, {3, 7}, {32, 1<<32 - 1}, {62, 1<<62 - 1}, {63, 1<<63 - 1},
		{64, all}, {65, all}, {99, all}, {128, all}, {math.MaxInt, all},
	} {
		if got := Below(c.n); got != c.want {
			t.Errorf("P3.1: Below(%d): %x, want %x", c.n, got, c.want)
		}
	}
	for _, n := range tried() {
		var want table
		for x := range want {
			want[x] = x < n
		}
		if got := Below(n); got != want.set() {
			t.Errorf("P3.1: Below(%d): %x, want %x", n, got, want.set())
		}
	}
}

// tried: all numbers that may be in a set, some about them, and the far ones.
func tried() []int {
	l := slices.Clone(numbers)
	for x := -70; x < 140; x++ {
		l = append(l, x)
	}
	return l
}

func TestHas(t *testing.T) {
	for _, s := range sets() {
		in := tableOf(s)
		for _, x := range tried() {
			want := x >= 0 && x <= 63 && in[x]
			if s.Has(x) != want {
				t.Fatalf("P3.1: %x.Has(%d): %v", s, x, !want)
			}
		}
	}
}

func TestWithAndWithout(t *testing.T) {
	for _, s := range sets() {
		for _, x := range tried() {
			more, less := tableOf(s), tableOf(s)
			if x >= 0 && x <= 63 {
				more[x], less[x] = true, false
			}
			was := s
			if got := s.With(x); got != more.set() {
				t.Fatalf("P3.1: %x.With(%d): %x, want %x", s, x, got, more.set())
			}
			if got := s.Without(x); got != less.set() {
				t.Fatalf("P3.1: %x.Without(%d): %x, want %x", s, x, got, less.set())
			}
			if s != was {
				t.Fatalf("rule 3: With or Without of %d changed %x to %x", x, was, s)
			}
		}
	}
}

func TestLenAndFirst(t *testing.T) {
	for _, s := range sets() {
		want := tableOf(s).list()
		if s.Len() != len(want) {
			t.Errorf("P3.2: %x.Len(): %d, want %d", s, s.Len(), len(want))
		}
		least, some := 0, len(want) > 0
		if some {
			least = want[0]
		}
		if x, ok := s.First(); x != least || ok != some {
			t.Errorf("P3.2: %x.First(): %d, %v, want %d, %v", s, x, ok, least, some)
		}
	}
	if Set(0).Len() != 0 || all.Len() != 64 {
		t.Errorf("P3.2: Len of none %d, of all %d", Set(0).Len(), all.Len())
	}
	if x, ok := Set(0).First(); x != 0 || ok {
		t.Errorf("P3.2: First of none: %d, %v", x, ok)
	}
	if x, ok := all.First(); x != 0 || !ok {
		t.Errorf("P3.2: First of all: %d, %v", x, ok)
	}
	if x, ok := Set(1 << 63).First(); x != 63 || !ok {
		t.Errorf("P3.2: First of 63: %d, %v", x, ok)
	}
}

// asked: what an iterator gives while at most n are asked for, and how often it calls behind the last one.
func asked(s Set, n int) (got []int, late int) {
	over := false
	s.All()(func(x int) bool {
		if over {
			late++
			return false
		}
		got = append(got, x)
		over = len(got) >= n
		return !over
	})
	return got, late
}

func TestAllAndList(t *testing.T) {
	for _, s := range sets() {
		want := tableOf(s).list()
		var got []int
		for x := range s.All() {
			got = append(got, x)
		}
		if !slices.Equal(got, want) {
			t.Errorf("P3.2: %x.All(): %v, want %v", s, got, want)
		}
		if l := s.List(); !slices.Equal(l, want) {
			t.Errorf("P3.2: %x.List(): %v, want %v", s, l, want)
		}
	}
	if l := Set(0).List(); len(l) != 0 {
		t.Errorf("P3.2: List of none: %v", l)
	}
	for range Set(0).All() {
		t.Error("P3.2: All of none gives one")
	}
}

func TestAllStops(t *testing.T) {
	for _, s := range sets() {
		want := tableOf(s).list()
		for _, n := range []int{1, 2, 3, len(want) - 1, len(want), len(want) + 1} {
			if n < 1 {
				continue
			}
			got, late := asked(s, n)
			if !slices.Equal(got, want[:min(n, len(want))]) {
				t.Errorf("P3.2: %x.All(), %d asked for: %v, want the first of %v", s, n, got, want)
			}
			if late != 0 {
				t.Errorf("P3.2: %x.All() gives %d more than the %d that are asked for", s, late, n)
			}
		}
	}
	for x := range all.All() {
		if x != 0 {
			t.Errorf("P3.2: the first of all is %d", x)
		}
		break
	}
}

func TestAllAgain(t *testing.T) {
	s := Of(0, 5, 63)
	each := s.All()
	s = s.Without(5)
	for range 3 {
		for x := range each {
			if x != 0 {
				t.Errorf("P3.2: gone through anew, All begins with %d", x)
			}
			break
		}
		if got := slices.Collect(each); !slices.Equal(got, []int{0, 5, 63}) {
			t.Errorf("P3.2: All of 0, 5, 63, gone through again: %v", got)
		}
	}
	var got []int
	for x := range each {
		for y := range each {
			got = append(got, 100*x+y)
		}
	}
	if !slices.Equal(got, []int{0, 5, 63, 500, 505, 563, 6300, 6305, 6363}) {
		t.Errorf("P3.2: All within All: %v", got)
	}
}

func TestListHasItsOwnMemory(t *testing.T) {
	s := Of(1, 2, 60)
	one, other := s.List(), s.List()
	for i := range one {
		one[i] = -7
	}
	_ = append(one[:0], 8, 8, 8, 8)
	if !slices.Equal(other, []int{1, 2, 60}) || !slices.Equal(s.List(), []int{1, 2, 60}) {
		t.Errorf("rule 3: lists share memory: %v, %v", other, s.List())
	}
}

func TestSetOfItsList(t *testing.T) {
	for _, s := range sets() {
		if got := Of(s.List()...); got != s {
			t.Errorf("P3.3: the set of the list of %x is %x", s, got)
		}
	}
	for _, l := range [][]int{nil, {-1}, {64}, {63, 0}, {5, 5, 5}, {math.MaxInt, 7, math.MinInt, 0, 7}, numbers} {
		s := Of(l...)
		if got := Of(s.List()...); got != s {
			t.Errorf("P3.3: the set of the list of Of(%v) is %x, not %x", l, got, s)
		}
	}
}
