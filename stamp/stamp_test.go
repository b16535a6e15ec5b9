package stamp

import (
	"math"
	"slices"
	"strconv"
	"testing"

	"ringroad/api"
)

// rounds is how often a row is cleared where its stamps must come to their end, and begin anew, some times over.
const rounds = 1100

// pair is a thing of two parts.
type pair struct {
	number int
	text   string
}

// one is a place with what is there.
type one[T any] struct {
	at int
	v  T
}

// plain is a row told in the tests' own form: what is at which place.
type plain[T any] struct {
	n  int
	at map[int]T
}

// set: as P5.1 asks.
func (q *plain[T]) set(at int, v T) api.Code {
	if at < 0 || at >= q.n {
		return api.Arg
	}
	q.at[at] = v
	return api.OK
}

// list: all of them, rising.
func (q *plain[T]) list() []one[T] {
	var l []one[T]
	for at := range 65 {
		if v, ok := q.at[at]; ok {
			l = append(l, one[T]{at, v})
		}
	}
	return l
}

// made: a row of n places, and its plain form.
func made[T any](t *testing.T, n int) (*Row[T], *plain[T]) {
	t.Helper()
	r, code := New[T](n)
	if r == nil || code != api.OK {
		t.Fatalf("P5.1: New(%d): %v, %d", n, r, code)
	}
	return r, &plain[T]{n, map[int]T{}}
}

// filled: a row with something at each place, and its plain form.
func filled(t *testing.T, n int) (*Row[int], *plain[int]) {
	t.Helper()
	r, q := made[int](t, n)
	for at := range n {
		sets(t, r, q, at, 100-at)
	}
	return r, q
}

// wrong: places that a row of n places hasn't.
func wrong(n int) []int {
	l := []int{
		-1, -2, -64, -65, -256, math.MinInt32, math.MinInt + 1, math.MinInt,
		n, n + 1, n + 64, n + 256, 64, 65, 128, 256, 1 << 32, math.MaxInt32, math.MaxInt - 1, math.MaxInt,
	}
	return slices.DeleteFunc(l, func(at int) bool { return at >= 0 && at < n })
}

// gone: what All gives.
func gone[T any](r *Row[T]) []one[T] {
	var l []one[T]
	for at, v := range r.All() {
		l = append(l, one[T]{at, v})
	}
	return l
}

// held holds all that a row tells against its plain form.
func held[T comparable](t *testing.T, r *Row[T], q *plain[T]) {
	t.Helper()
	want := q.list()
	if r.Len() != len(want) {
		t.Fatalf("P5.2: Len: %d, want %d", r.Len(), len(want))
	}
	for at := -1; at <= q.n; at++ {
		v, some := q.at[at]
		if got, ok := r.Get(at); got != v || ok != some {
			t.Fatalf("P5.1: Get(%d): %v, %v, want %v, %v", at, got, ok, v, some)
		}
	}
	if got := gone(r); !slices.Equal(got, want) {
		t.Fatalf("P5.2: All: %v, want %v", got, want)
	}
}

// sets sets one in both forms, and holds the codes against each other.
func sets[T any](t *testing.T, r *Row[T], q *plain[T], at int, v T) {
	t.Helper()
	want := q.set(at, v)
	if got := r.Set(at, v); got != want {
		t.Fatalf("P5.1: Set(%d, %v): %d, want %d", at, v, got, want)
	}
}

// clears clears both forms.
func clears[T any](r *Row[T], q *plain[T]) {
	r.Clear()
	clear(q.at)
}

func TestExample(t *testing.T) {
	r, _ := made[int](t, 2)
	if code := r.Set(1, 7); code != api.OK {
		t.Fatalf("P5.1: Set(1, 7): %d", code)
	}
	if v, ok := r.Get(1); v != 7 || !ok {
		t.Errorf("P5.1: Get(1) ahead of Clear: %d, %v", v, ok)
	}
	r.Clear()
	if v, ok := r.Get(1); v != 0 || ok {
		t.Errorf("P5.1: Get(1) behind Clear: %d, %v", v, ok)
	}
}

func TestNew(t *testing.T) {
	for n := 0; n <= 64; n++ {
		r, q := made[int](t, n)
		held(t, r, q)
		for at := range n {
			sets(t, r, q, at, at%7)
		}
		held(t, r, q)
		if r.Len() != n {
			t.Errorf("P5.2: Len of all, of %d: %d", n, r.Len())
		}
		clears(r, q)
		held(t, r, q)
	}
	for _, n := range []int{math.MinInt, math.MinInt + 1, -1 << 32, -65, -64, -2, -1, 65, 66, 128, 256, 1 << 32, 1<<32 + 5, math.MaxInt - 1, math.MaxInt} {
		if r, code := New[int](n); r != nil || code != api.Arg {
			t.Errorf("P5.1: New(%d) of numbers: %v, %d", n, r, code)
		}
		if r, code := New[string](n); r != nil || code != api.Arg {
			t.Errorf("P5.1: New(%d) of texts: %v, %d", n, r, code)
		}
		if r, code := New[pair](n); r != nil || code != api.Arg {
			t.Errorf("P5.1: New(%d) of pairs: %v, %d", n, r, code)
		}
	}
}

// typed sets, sets again and clears things of a type, and holds the row against its plain form meanwhile.
func typed[T comparable](t *testing.T, things ...T) {
	t.Helper()
	for _, n := range []int{1, 2, 5, 24, 63, 64} {
		r, q := made[T](t, n)
		for range 3 {
			for i := range 2 * n {
				sets(t, r, q, i*37%n, things[i%len(things)])
				held(t, r, q)
			}
			clears(r, q)
			held(t, r, q)
		}
	}
}

func TestTypes(t *testing.T) {
	typed(t, 0, 1, -1, math.MinInt, math.MaxInt, api.None)
	typed(t, "", "a", "0", "\x00", "\xff", "é")
	typed(t, pair{}, pair{1, ""}, pair{0, "a"}, pair{-1, "b"})
	typed(t, [2]int{}, [2]int{0, 1}, [2]int{1, 0})
	typed(t, false, true)
	typed[any](t, nil, 1, "1", pair{1, "1"})
	typed(t, struct{}{})
}

func TestEndPlaces(t *testing.T) {
	for n := 1; n <= 64; n++ {
		r, q := made[pair](t, n)
		sets(t, r, q, n-1, pair{n, "last"})
		held(t, r, q)
		sets(t, r, q, 0, pair{0, "first"})
		held(t, r, q)
		if n > 1 {
			if v, ok := r.Get(n - 1); v != (pair{n, "last"}) || !ok || r.Len() != 2 {
				t.Errorf("P5.1: place %d of %d: %v, %v", n-1, n, v, ok)
			}
		}
		clears(r, q)
		held(t, r, q)
	}
}

func TestSetAgain(t *testing.T) {
	r, q := made[int](t, 3)
	for _, v := range []int{5, 5, 9, 0, 0, -1, math.MaxInt, math.MinInt, 4} {
		sets(t, r, q, 1, v)
		held(t, r, q)
		if got, ok := r.Get(1); got != v || !ok || r.Len() != 1 {
			t.Errorf("P5.1: set again to %d: %d, %v, Len %d", v, got, ok, r.Len())
		}
	}
}

func TestZeroIsSomething(t *testing.T) {
	r, _ := made[string](t, 4)
	if r.Set(2, "") != api.OK || r.Len() != 1 {
		t.Errorf("P5.1: Set(2, no text): Len %d", r.Len())
	}
	if v, ok := r.Get(2); v != "" || !ok {
		t.Errorf("P5.1: Get(2): %q, %v", v, ok)
	}
	if got := gone(r); !slices.Equal(got, []one[string]{{2, ""}}) {
		t.Errorf("P5.2: All: %v", got)
	}
}

func TestWrongPlaces(t *testing.T) {
	for _, n := range []int{0, 1, 2, 24, 63, 64} {
		r, q := made[int](t, n)
		for round := range 3 {
			for at := 0; at < n; at += 2 {
				sets(t, r, q, at, 100*round+at+1)
			}
			for _, at := range wrong(n) {
				for _, v := range []int{math.MinInt, -1, 0, 50, math.MaxInt} {
					if code := r.Set(at, v); code != api.Arg {
						t.Errorf("P5.1: Set(%d, %d) of %d places: %d", at, v, n, code)
					}
				}
				if v, ok := r.Get(at); v != 0 || ok {
					t.Errorf("P5.1: Get(%d) of %d places: %d, %v", at, n, v, ok)
				}
			}
			held(t, r, q)
			clears(r, q)
			for _, at := range wrong(n) {
				if v, ok := r.Get(at); r.Set(at, 1) != api.Arg || v != 0 || ok {
					t.Errorf("P5.1: place %d of %d, cleared: %d, %v", at, n, v, ok)
				}
			}
			held(t, r, q)
		}
	}
}

func TestNone(t *testing.T) {
	for _, n := range []int{0, 1, 2, 63, 64} {
		r, q := made[string](t, n)
		for range 3 {
			for range r.All() {
				t.Errorf("P5.2: All of none, of %d, gives one", n)
			}
			if r.Len() != 0 {
				t.Errorf("P5.2: Len of none, of %d: %d", n, r.Len())
			}
			held(t, r, q)
			r.Clear()
		}
	}
}

func TestEmptyCleared(t *testing.T) {
	for _, n := range []int{0, 1, 3, 64} {
		r, q := made[int](t, n)
		for k := range rounds {
			r.Clear()
			if r.Len() != 0 {
				t.Fatalf("P5.3: a row of %d, empty, cleared %d times: Len is %d", n, k+1, r.Len())
			}
			held(t, r, q)
		}
	}
}

// cleared: a row of 5 whose places 0, 2 and 4 were set ahead of so many Clears.
func cleared(t *testing.T, times int) (*Row[pair], *plain[pair]) {
	t.Helper()
	r, q := made[pair](t, 5)
	for at := 0; at < 5; at += 2 {
		sets(t, r, q, at, pair{at, "ahead"})
	}
	for range times {
		clears(r, q)
	}
	return r, q
}

// since sets places 1 and 2 of such a row, clears it, and holds it against its plain form meanwhile.
func since(t *testing.T, r *Row[pair], q *plain[pair]) {
	t.Helper()
	held(t, r, q)
	sets(t, r, q, 1, pair{1, "since"})
	sets(t, r, q, 2, pair{2, "since"})
	held(t, r, q)
	clears(r, q)
	held(t, r, q)
}

func TestClearedSoOften(t *testing.T) {
	for times := range rounds {
		r, q := cleared(t, times)
		since(t, r, q)
		if t.Failed() {
			t.Fatalf("P5.3: of a row cleared %d times", times)
		}
	}
	// Wider stamps come to their end, too.
	for _, times := range []int{1<<16 - 2, 1<<16 - 1, 1 << 16, 1<<16 + 1, 1<<17 - 1, 1 << 17} {
		r, q := cleared(t, times)
		since(t, r, q)
	}
}

func TestNothingComesBack(t *testing.T) {
	r, q := made[int](t, 64)
	for at := range 64 {
		r.Clear()
		r.Set(at, at+1)
	}
	for k := range 3 * rounds {
		r.Clear()
		if r.Len() != 0 || len(gone(r)) != 0 {
			t.Fatalf("P5.3: %v come back behind %d Clears", gone(r), k+1)
		}
	}
	held(t, r, q)
}

func TestClearedRoundByRound(t *testing.T) {
	// One place more is set in each round, so that stamps of many times stand side by side when they begin anew.
	r, q := made[string](t, 7)
	for k := range rounds {
		text := strconv.Itoa(k)
		sets(t, r, q, k%7, text)
		if k%3 == 0 {
			sets(t, r, q, k%5, text+"!")
		}
		held(t, r, q)
		if k%4 != 3 {
			clears(r, q)
			held(t, r, q)
		}
	}
}

func TestStaysThroughNoClear(t *testing.T) {
	// What is set just as the stamps begin anew stays till the row is cleared.
	for times := 250; times < 520; times++ {
		r, q := made[int](t, 3)
		for range times {
			r.Clear()
		}
		for k := range 600 {
			sets(t, r, q, 2, k)
		}
		sets(t, r, q, 0, -1)
		held(t, r, q)
	}
}

func TestAllStops(t *testing.T) {
	for _, n := range []int{1, 2, 3, 7, 64} {
		r, q := made[int](t, n)
		for round := range 300 {
			for at := round % 2; at < n; at += 1 + round%3 {
				sets(t, r, q, at, round-at)
			}
			if round%60 < 6 {
				asked(t, r, q)
			}
			clears(r, q)
		}
	}
}

// asked asks All for each count of them, and for one more than there are.
func asked(t *testing.T, r *Row[int], q *plain[int]) {
	t.Helper()
	want := q.list()
	for ask := 1; ask <= len(want)+1; ask++ {
		var got []one[int]
		late, over := 0, false
		r.All()(func(at, v int) bool {
			if over {
				late++
				return false
			}
			got = append(got, one[int]{at, v})
			over = len(got) == ask
			return !over
		})
		if !slices.Equal(got, want[:min(ask, len(want))]) {
			t.Errorf("P5.2: All, %d asked for: %v, want the first of %v", ask, got, want)
		}
		if late != 0 {
			t.Errorf("P5.2: All gives %d more than the %d that are asked for", late, ask)
		}
	}
	for at, v := range r.All() {
		if (one[int]{at, v}) != want[0] {
			t.Errorf("P5.2: the first of All: %d, %d, want %v", at, v, want[0])
		}
		break
	}
	held(t, r, q)
}

func TestAllAgain(t *testing.T) {
	r, q := filled(t, 9)
	want := q.list()
	each := r.All()
	for range 3 {
		for range each {
			break
		}
		var got []one[int]
		for at, v := range each {
			got = append(got, one[int]{at, v})
		}
		if !slices.Equal(got, want) {
			t.Errorf("P5.2: All, gone through again: %v, want %v", got, want)
		}
	}
	count := 0
	for x := range each {
		for y := range each {
			if x != count/9 || y != count%9 {
				t.Fatalf("P5.2: All within All, number %d: %d, %d", count, x, y)
			}
			count++
		}
	}
	if count != 81 {
		t.Errorf("P5.2: All within All gives %d", count)
	}
	held(t, r, q)
}

func TestLookingLeavesTheRow(t *testing.T) {
	r, q := filled(t, 20)
	for range 3 * rounds {
		r.Len()
		for at := -1; at <= 20; at++ {
			r.Get(at)
		}
	}
	held(t, r, q)
}

func TestRefusedLeavesTheRow(t *testing.T) {
	for _, n := range []int{0, 1, 30, 64} {
		r, q := filled(t, n)
		for _, at := range wrong(n) {
			if code := r.Set(at, -7); code != api.Arg {
				t.Errorf("P5.1: Set(%d) of %d: %d", at, n, code)
			}
			held(t, r, q)
		}
	}
}

func TestRowsAreApart(t *testing.T) {
	r, q := filled(t, 12)
	s, p := made[int](t, 12)
	held(t, s, p)
	for k := range rounds {
		sets(t, s, p, k%12, -k)
		held(t, r, q)
		held(t, s, p)
		clears(s, p)
		held(t, r, q)
		held(t, s, p)
	}
}

// tried does all rows of so many Sets and Clears, of 3 places and 2 things, one behind the other.
func tried(t *testing.T, row []int, left int) {
	if left > 0 {
		for op := range 7 {
			tried(t, append(row, op), left-1)
		}
		return
	}
	defer func() {
		if t.Failed() {
			t.Logf("the row is %v", row)
		}
	}()
	r, q := made[int](t, 3)
	for _, op := range row {
		if op == 6 {
			clears(r, q)
		} else {
			sets(t, r, q, op/2, op%2)
		}
	}
	held(t, r, q)
}

func TestEveryRow(t *testing.T) {
	for n := range 6 {
		tried(t, nil, n)
	}
}

// dice are numbers that look like chance and are the same each time.
type dice uint64

func (d *dice) below(n int) int {
	*d = *d*6364136223846793005 + 1442695040888963407
	return int(uint64(*d) >> 33 % uint64(n))
}

func TestLongRows(t *testing.T) {
	d := dice(20261118)
	for _, n := range []int{0, 1, 2, 3, 5, 8, 24, 63, 64} {
		for _, often := range []int{2, 3, 20} {
			r, q := made[int](t, n)
			for range rounds {
				if d.below(often) == 0 {
					clears(r, q)
				} else {
					sets(t, r, q, d.below(n+2)-1, d.below(9)-4)
				}
				held(t, r, q)
			}
		}
	}
}
