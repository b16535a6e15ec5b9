package heap

import (
	"cmp"
	"math"
	"slices"
	"strings"
	"testing"

	"ringroad/api"
)

// one is a thing with its priority.
type one[P cmp.Ordered] struct {
	thing int
	p     P
}

// plain is a heap told in the tests' own form: which things are in it, each with its priority, in no order.
type plain[P cmp.Ordered] struct {
	n  int
	in map[int]P
}

// put: as P4.1 asks.
func (q *plain[P]) put(thing int, p P) api.Code {
	if thing < 0 || thing >= q.n {
		return api.Arg
	}
	if was, ok := q.in[thing]; ok && !(was > p) {
		return api.State
	}
	q.in[thing] = p
	return api.OK
}

// list: all of them, the least priority first, of like ones the least thing.
func (q *plain[P]) list() []one[P] {
	var l []one[P]
	for thing, p := range q.in {
		l = append(l, one[P]{thing, p})
	}
	slices.SortFunc(l, func(a, b one[P]) int {
		return cmp.Or(cmp.Compare(a.p, b.p), cmp.Compare(a.thing, b.thing))
	})
	return l
}

// pop: the first of the list, taken out.
func (q *plain[P]) pop() (one[P], bool) {
	l := q.list()
	if len(l) == 0 {
		return one[P]{}, false
	}
	delete(q.in, l[0].thing)
	return l[0], true
}

// made: a heap of n things, and its plain form.
func made[P cmp.Ordered](t *testing.T, n int) (*Heap[P], *plain[P]) {
	t.Helper()
	h, code := New[P](n)
	if h == nil || code != api.OK {
		t.Fatalf("P4.1: New(%d): %v, %d", n, h, code)
	}
	return h, &plain[P]{n, map[int]P{}}
}

// wrong: things that a heap of n things hasn't.
func wrong(n int) []int {
	return []int{
		-1, -2, -64, -65, math.MinInt32, math.MinInt + 1, math.MinInt,
		n, n + 1, n + 64, 64, 65, 128, 256, 1 << 32, math.MaxInt32, math.MaxInt - 1, math.MaxInt,
	}
}

// held holds all that a heap tells against its plain form.
func held[P cmp.Ordered](t *testing.T, h *Heap[P], q *plain[P]) {
	t.Helper()
	want := q.list()
	if h.Len() != len(want) {
		t.Fatalf("P4.2: Len: %d, want %d", h.Len(), len(want))
	}
	var first one[P]
	if len(want) > 0 {
		first = want[0]
	}
	if thing, p, ok := h.Peek(); thing != first.thing || p != first.p || ok != (len(want) > 0) {
		t.Fatalf("P4.2: Peek: %d, %v, %v, want the first of %v", thing, p, ok, want)
	}
	for thing := -1; thing <= q.n; thing++ {
		p, in := q.in[thing]
		if got, ok := h.At(thing); got != p || ok != in {
			t.Fatalf("P4.2: At(%d): %v, %v, want %v, %v", thing, got, ok, p, in)
		}
	}
	if got := gone(h); !slices.Equal(got, want) {
		t.Fatalf("P4.2: All: %v, want %v", got, want)
	}
	if h.Len() != len(want) {
		t.Fatalf("P4.2: All leaves %d of %d", h.Len(), len(want))
	}
}

// gone: what All gives.
func gone[P cmp.Ordered](h *Heap[P]) []one[P] {
	var l []one[P]
	for thing, p := range h.All() {
		l = append(l, one[P]{thing, p})
	}
	return l
}

// emptied: what Pop gives, till none is left.
func emptied[P cmp.Ordered](t *testing.T, h *Heap[P]) []one[P] {
	t.Helper()
	var l []one[P]
	for range 1000 {
		thing, p, ok := h.Pop()
		if !ok {
			if thing != 0 || p != *new(P) || h.Len() != 0 {
				t.Fatalf("P4.2: Pop of none: %d, %v, and Len is %d", thing, p, h.Len())
			}
			return l
		}
		l = append(l, one[P]{thing, p})
	}
	t.Fatal("P4.2: Pop never comes to an end")
	return nil
}

// puts puts one into both forms, and holds the codes against each other.
func puts[P cmp.Ordered](t *testing.T, h *Heap[P], q *plain[P], thing int, p P) {
	t.Helper()
	want := q.put(thing, p)
	if got := h.Put(thing, p); got != want {
		t.Fatalf("P4.1: Put(%d, %v): %d, want %d", thing, p, got, want)
	}
}

// pops pops one from both forms, and holds what comes against each other.
func pops[P cmp.Ordered](t *testing.T, h *Heap[P], q *plain[P]) {
	t.Helper()
	want, some := q.pop()
	if thing, p, ok := h.Pop(); thing != want.thing || p != want.p || ok != some {
		t.Fatalf("P4.2: Pop: %d, %v, %v, want %v, %v", thing, p, ok, want, some)
	}
}

func TestExample(t *testing.T) {
	h, _ := made[int](t, 3)
	for _, o := range []one[int]{{2, 5}, {0, 5}, {1, 9}, {1, 4}} {
		if code := h.Put(o.thing, o.p); code != api.OK {
			t.Fatalf("P4.1: Put(%d, %d): %d", o.thing, o.p, code)
		}
	}
	want := []one[int]{{1, 4}, {0, 5}, {2, 5}}
	if got := gone(h); !slices.Equal(got, want) {
		t.Errorf("P4.2: the example, by All: %v", got)
	}
	if got := emptied(t, h); !slices.Equal(got, want) {
		t.Errorf("P4.2: the example, by Pop: %v", got)
	}
}

func TestNew(t *testing.T) {
	for n := 0; n <= 64; n++ {
		h, q := made[int](t, n)
		held(t, h, q)
		for thing := range n {
			puts(t, h, q, thing, thing%7)
		}
		held(t, h, q)
		if h.Len() != n {
			t.Errorf("P4.1: a heap of %d has room for %d", n, h.Len())
		}
	}
	for _, n := range []int{math.MinInt, math.MinInt + 1, -1 << 32, -65, -64, -2, -1, 65, 66, 128, 256, 1 << 32, 1<<32 + 5, math.MaxInt - 1, math.MaxInt} {
		if h, code := New[int](n); h != nil || code != api.Arg {
			t.Errorf("P4.1: New(%d) of numbers: %v, %d", n, h, code)
		}
		if h, code := New[string](n); h != nil || code != api.Arg {
			t.Errorf("P4.1: New(%d) of texts: %v, %d", n, h, code)
		}
	}
}

func TestNone(t *testing.T) {
	for _, n := range []int{0, 1, 2, 63, 64} {
		h, q := made[string](t, n)
		for range 3 {
			if thing, p, ok := h.Peek(); thing != 0 || p != "" || ok {
				t.Errorf("P4.2: Peek of none, of %d: %d, %q, %v", n, thing, p, ok)
			}
			if thing, p, ok := h.Pop(); thing != 0 || p != "" || ok {
				t.Errorf("P4.2: Pop of none, of %d: %d, %q, %v", n, thing, p, ok)
			}
			for thing := range n {
				if p, ok := h.At(thing); p != "" || ok {
					t.Errorf("P4.2: At(%d) of none: %q, %v", thing, p, ok)
				}
			}
			for range h.All() {
				t.Errorf("P4.2: All of none, of %d, gives one", n)
			}
		}
		held(t, h, q)
	}
}

func TestWrongThings(t *testing.T) {
	for _, n := range []int{0, 1, 2, 24, 63, 64} {
		h, q := made[int](t, n)
		for thing := 0; thing < n; thing += 2 {
			puts(t, h, q, thing, 100-thing)
		}
		for _, thing := range wrong(n) {
			if thing >= 0 && thing < n {
				continue
			}
			for _, p := range []int{math.MinInt, -1, 0, 50, math.MaxInt} {
				if code := h.Put(thing, p); code != api.Arg {
					t.Errorf("P4.1: Put(%d, %d) of %d things: %d", thing, p, n, code)
				}
			}
			if p, ok := h.At(thing); p != 0 || ok {
				t.Errorf("P4.2: At(%d) of %d things: %d, %v", thing, n, p, ok)
			}
		}
		held(t, h, q)
	}
}

func TestEndThings(t *testing.T) {
	for n := 1; n <= 64; n++ {
		h, q := made[int](t, n)
		puts(t, h, q, n-1, 3)
		puts(t, h, q, 0, 3)
		held(t, h, q)
		if n > 1 {
			if p, ok := h.At(n - 1); p != 3 || !ok || h.Len() != 2 {
				t.Errorf("P4.1: thing %d of %d: %d, %v", n-1, n, p, ok)
			}
		}
		pops(t, h, q)
		held(t, h, q)
	}
}

func TestPutAgain(t *testing.T) {
	h, q := made[int](t, 4)
	for _, c := range []struct {
		thing, p int
		want     api.Code
	}{
		{1, 10, api.OK}, {2, 10, api.OK},
		{1, 10, api.State}, {1, 11, api.State}, {1, math.MaxInt, api.State}, {1, 9, api.OK}, {1, 10, api.State}, {1, 9, api.State},
		{2, 8, api.OK}, {2, -8, api.OK}, {2, 0, api.State}, {2, math.MinInt, api.OK}, {2, math.MinInt, api.State}, {2, math.MinInt + 1, api.State},
		{0, math.MaxInt, api.OK}, {0, math.MaxInt, api.State}, {0, math.MaxInt - 1, api.OK},
		{3, 0, api.OK}, {3, 0, api.State}, {3, 1, api.State}, {3, -1, api.OK},
	} {
		if got := h.Put(c.thing, c.p); got != c.want {
			t.Errorf("P4.1: Put(%d, %d): %d, want %d", c.thing, c.p, got, c.want)
		}
		if got := q.put(c.thing, c.p); got != c.want {
			t.Fatalf("the tests' own form: Put(%d, %d): %d, want %d", c.thing, c.p, got, c.want)
		}
		held(t, h, q)
	}
	if got := emptied(t, h); !slices.Equal(got, []one[int]{{2, math.MinInt}, {3, -1}, {1, 9}, {0, math.MaxInt - 1}}) {
		t.Errorf("P4.2: %v", got)
	}
}

func TestPutBehindPop(t *testing.T) {
	h, q := made[int](t, 3)
	for _, p := range []int{5, 5, 9, math.MaxInt, 0, math.MinInt, 1} {
		puts(t, h, q, 2, p)
		puts(t, h, q, 0, 7)
		held(t, h, q)
		pops(t, h, q)
		pops(t, h, q)
		held(t, h, q)
	}
	// What has come out may be put again with any priority: with one that is greater, too.
	if h.Put(2, 4) != api.OK || h.Put(2, 4) != api.State {
		t.Error("P4.1: a thing that has come out, put again")
	}
}

func TestTexts(t *testing.T) {
	texts := []string{"", "a", "aa", "ab", "b", "B", "10", "9", "\x00", "\xff", "é", "z", strings.Repeat("a", 300)}
	h, q := made[string](t, 64)
	for i := range 64 {
		puts(t, h, q, i*37%64, texts[i%len(texts)])
	}
	held(t, h, q)
	for i := range 64 {
		for _, text := range texts {
			puts(t, h, q, i, text+"a")
		}
		held(t, h, q)
	}
	for range 65 {
		pops(t, h, q)
		held(t, h, q)
	}
}

// small is an ordered type that isn't one of the language's own.
type small uint8

func TestOtherTypes(t *testing.T) {
	h, q := made[small](t, 9)
	for i, p := range []small{255, 0, 128, 127, 1, 254, 0, 255, 3} {
		puts(t, h, q, i, p)
		held(t, h, q)
	}
	g, r := made[uint64](t, 4)
	for i, p := range []uint64{math.MaxUint64, 1 << 63, 1<<63 - 1, 0} {
		puts(t, g, r, i, p)
		held(t, g, r)
	}
	for range 10 {
		pops(t, h, q)
		held(t, h, q)
		pops(t, g, r)
		held(t, g, r)
	}
}

func TestLikePriorities(t *testing.T) {
	for _, step := range []int{1, 3, 5, 31, 63} {
		h, q := made[int](t, 64)
		for i := range 64 {
			puts(t, h, q, i*step%64, 1)
		}
		for i, o := range emptied(t, h) {
			if o.thing != i || o.p != 1 {
				t.Fatalf("P4.2: of like priorities, %v comes out as number %d", o, i)
			}
		}
		// The same, where they have come to be alike.
		for i := range 64 {
			if h.Put(i*step%64, 100+i) != api.OK {
				t.Fatalf("P4.1: Put(%d) behind Pop", i*step%64)
			}
		}
		for i := range 64 {
			if h.Put(i*(64-step)%64, 7) != api.OK {
				t.Fatalf("P4.1: Put(%d) with less", i*(64-step)%64)
			}
		}
		for i, o := range emptied(t, h) {
			if o.thing != i || o.p != 7 {
				t.Fatalf("P4.2: of priorities that have come to be alike, %v comes out as number %d", o, i)
			}
		}
	}
}

// tried does all rows of so many puts and pops, of 3 things and 3 priorities, one behind the other.
func tried(t *testing.T, row []int, left int) {
	if left > 0 {
		for op := range 10 {
			tried(t, append(row, op), left-1)
		}
		return
	}
	defer func() {
		if t.Failed() {
			t.Logf("the row is %v", row)
		}
	}()
	h, q := made[int](t, 3)
	for _, op := range row {
		if op == 9 {
			pops(t, h, q)
		} else {
			puts(t, h, q, op/3, op%3)
		}
	}
	held(t, h, q)
}

func TestEveryRow(t *testing.T) {
	for n := range 5 {
		tried(t, nil, n)
	}
}

// dice are numbers that look like chance and are the same each time.
type dice uint64

func (d *dice) below(n int) int {
	*d = *d*6364136223846793005 + 1442695040888963407
	return int(uint64(*d) >> 33 % uint64(n))
}

func TestLongRows(t *testing.T) {
	d := dice(20261118)
	for _, n := range []int{1, 2, 3, 5, 8, 15, 16, 17, 31, 33, 63, 64} {
		for _, span := range []int{1, 2, 10, 1000} {
			h, q := made[int](t, n)
			for range 300 {
				if d.below(3) == 0 {
					pops(t, h, q)
				} else {
					puts(t, h, q, d.below(n+2)-1, d.below(span)-span/2)
				}
				held(t, h, q)
			}
		}
	}
}

// filled: a heap of numbers with each thing in it, and its plain form.
func filled(t *testing.T, n int) (*Heap[int], *plain[int]) {
	h, q := made[int](t, n)
	d := dice(n)
	for thing := range n {
		puts(t, h, q, thing, d.below(n/2+1))
	}
	return h, q
}

func TestAllStops(t *testing.T) {
	for _, n := range []int{1, 2, 3, 7, 64} {
		h, q := filled(t, n)
		want := q.list()
		for ask := 1; ask <= n+1; ask++ {
			var got []one[int]
			late, over := 0, false
			h.All()(func(thing, p int) bool {
				if over {
					late++
					return false
				}
				got = append(got, one[int]{thing, p})
				over = len(got) == ask
				return !over
			})
			if !slices.Equal(got, want[:min(ask, n)]) {
				t.Errorf("P4.2: All, %d of %d asked for: %v, want the first of %v", ask, n, got, want)
			}
			if late != 0 {
				t.Errorf("P4.2: All gives %d more than the %d that are asked for", late, ask)
			}
			held(t, h, q)
		}
		for thing, p := range h.All() {
			if (one[int]{thing, p}) != want[0] {
				t.Errorf("P4.2: the first of All: %d, %d, want %v", thing, p, want[0])
			}
			break
		}
		held(t, h, q)
		if got := emptied(t, h); !slices.Equal(got, want) {
			t.Errorf("P4.2: Pop behind All: %v, want %v", got, want)
		}
	}
}

func TestAllAgain(t *testing.T) {
	h, q := filled(t, 9)
	want := q.list()
	each := h.All()
	for range 3 {
		for range each {
			break
		}
		var got []one[int]
		for thing, p := range each {
			got = append(got, one[int]{thing, p})
		}
		if !slices.Equal(got, want) {
			t.Errorf("P4.2: All, gone through again: %v, want %v", got, want)
		}
	}
	count := 0
	for x := range each {
		for y := range each {
			if x != want[count/9].thing || y != want[count%9].thing {
				t.Fatalf("P4.2: All within All, number %d: %d, %d", count, x, y)
			}
			count++
		}
	}
	if count != 81 {
		t.Errorf("P4.2: All within All gives %d", count)
	}
	held(t, h, q)
}

func TestPeekAndAtLeaveTheHeap(t *testing.T) {
	h, q := filled(t, 20)
	for range 5 {
		h.Peek()
		h.Len()
		for thing := -1; thing <= 20; thing++ {
			h.At(thing)
		}
	}
	held(t, h, q)
}

func TestHeapsAreApart(t *testing.T) {
	g, q := filled(t, 12)
	h, r := made[int](t, 12)
	held(t, h, r)
	for thing := range 12 {
		puts(t, h, r, thing, -thing)
		pops(t, g, q)
		held(t, g, q)
		held(t, h, r)
	}
}

func TestRefusedLeavesTheHeap(t *testing.T) {
	h, q := filled(t, 30)
	want := q.list()
	for _, o := range want {
		for _, p := range []int{o.p, o.p + 1, math.MaxInt} {
			if code := h.Put(o.thing, p); code != api.State {
				t.Errorf("P4.1: Put(%d, %d) beside %d: %d", o.thing, p, o.p, code)
			}
		}
		held(t, h, q)
	}
	if got := emptied(t, h); !slices.Equal(got, want) {
		t.Errorf("rule 4: out come %v, want %v", got, want)
	}
}

func TestNeverLess(t *testing.T) {
	d := dice(4)
	for range 300 {
		n := d.below(65)
		h, _ := made[int](t, n)
		for range 2 * n {
			h.Put(d.below(n), d.below(40)-20)
		}
		for range d.below(n/4 + 1) {
			h.Pop()
		}
		for range n / 2 {
			h.Put(d.below(n), d.below(40)-20)
		}
		count := h.Len()
		was := one[int]{-1, math.MinInt}
		for thing, p, ok := h.Pop(); ok; thing, p, ok = h.Pop() {
			if p < was.p || p == was.p && thing <= was.thing {
				t.Fatalf("P4.3: %d with %d comes out behind %v", thing, p, was)
			}
			was = one[int]{thing, p}
			count--
		}
		if count != 0 {
			t.Fatalf("P4.2: %d more in it than come out", count)
		}
	}
	h, _ := made[string](t, 64)
	for thing := range 64 {
		h.Put(thing, strings.Repeat("ab", thing*29%13)+"c")
	}
	was := ""
	for _, o := range emptied(t, h) {
		if o.p < was {
			t.Fatalf("P4.3: %q comes out behind %q", o.p, was)
		}
		was = o.p
	}
}

func TestFloatsEnd(t *testing.T) {
	nan := math.NaN()
	h, code := New[float64](8)
	if code != api.OK {
		t.Fatal(code)
	}
	for i := range 64 {
		h.Put(i%8, []float64{nan, 1, -1, math.Inf(1), math.Inf(-1), 0}[i%6])
	}
	for range h.All() {
		h.Len()
	}
	for i := 0; h.Len() > 0; i++ {
		if h.Pop(); i > 8 {
			t.Fatal("rule 6: Pop of floats never comes to an end")
		}
	}
}
