package perm

import (
	"math"
	"slices"
	"testing"

	"ringroad/api"
)

// allOf are how many orders there are of 0, 1, .. 20 vertices.
var allOf = [21]uint64{
	1, 1, 2, 6, 24, 120, 720, 5040, 40320, 362880, 3628800, 39916800, 479001600, 6227020800, 87178291200, 1307674368000,
	20922789888000, 355687428096000, 6402373705728000, 121645100408832000, 2432902008176640000,
}

// counts are n's, and as how many vertices each counts.
var counts = []struct{ n, vertices int }{
	{math.MinInt, 0}, {math.MinInt + 1, 0}, {math.MinInt32, 0}, {-1<<32 + 5, 0}, {-25, 0}, {-24, 0}, {-2, 0}, {-1, 0},
	{0, 0}, {1, 1}, {2, 2}, {3, 3}, {7, 7}, {19, 19}, {20, 20}, {21, 21}, {22, 22}, {23, 23}, {24, 24},
	{25, 24}, {26, 24}, {48, 24}, {63, 24}, {64, 24}, {65, 24}, {256, 24}, {math.MaxInt32, 24}, {1<<32 + 5, 24}, {math.MaxInt - 1, 24}, {math.MaxInt, 24},
}

// numbers are those of orders, at the edges and between.
func numbers() []uint64 {
	out := []uint64{0, 1, 2, 3, 19, 20, 21, 22, 23, 24, 25, 1 << 31, 1 << 32, 1<<63 - 1, 1 << 63, 1<<63 + 1, math.MaxUint64 - 1, math.MaxUint64}
	for _, all := range allOf {
		out = append(out, all-1, all, all+1, 2*all-1, 2*all)
	}
	d := dice(20261118)
	for range 300 {
		out = append(out, d.next())
	}
	return out
}

// dice are numbers that look like chance and are the same each time.
type dice uint64

func (d *dice) next() uint64 {
	*d = *d*6364136223846793005 + 1442695040888963407
	return uint64(*d>>32) | uint64(*d<<32)
}

// shuffled: an order of n vertices that looks like chance.
func (d *dice) shuffled(n int) []int {
	l := make([]int, n)
	for v := range l {
		other := int(d.next() % uint64(v+1))
		l[v] = l[other]
		l[other] = v
	}
	return l
}

// right: is each rank there once? The tests' own form, by counting.
func right(l []int) bool {
	if len(l) > 24 {
		return false
	}
	for rank := range l {
		times := 0
		for _, x := range l {
			if x == rank {
				times++
			}
		}
		if times != 1 {
			return false
		}
	}
	return true
}

// plainOf: the order of a number, told as the chapter tells it, of those that haven't gone.
func plainOf(n int, number uint64) []int {
	l := make([]int, n)
	gone := make([]bool, n)
	for rank := range n {
		place := number % uint64(n-rank)
		number /= uint64(n - rank)
		for v := range n {
			if gone[v] {
				continue
			}
			if place == 0 {
				gone[v], l[v] = true, rank
				break
			}
			place--
		}
	}
	return l
}

// everyOrder: all orders of n vertices, each made of one of a vertex less by a place for the last one.
func everyOrder(n int) [][]int {
	if n == 0 {
		return [][]int{{}}
	}
	var out [][]int
	for _, l := range everyOrder(n - 1) {
		for rank := range n {
			longer := make([]int, 0, n)
			for _, x := range l {
				if x >= rank {
					x++
				}
				longer = append(longer, x)
			}
			out = append(out, append(longer, rank))
		}
	}
	return out
}

// orders are some of each count of vertices.
func orders() [][]int {
	out := [][]int{nil}
	for n := range 25 {
		up, down := make([]int, n), make([]int, n)
		for v := range n {
			up[v], down[v] = v, n-1-v
		}
		out = append(out, up, down)
		d := dice(n)
		for range 20 {
			out = append(out, d.shuffled(n))
		}
	}
	return out
}

// wrong are numbers that aren't ranks of n vertices, though some look like one by their last bits.
func wrong(n, rank int) []int {
	return []int{
		-1, -2, -n, -n - 1, rank - 64, -1 - rank, rank - 1<<32, math.MinInt, math.MinInt + rank, math.MinInt32,
		n, n + 1, 24 + n, rank + 32 + n, rank + 64, rank + 128, rank + 256, rank + 1<<32, rank + 1<<62, math.MaxInt32, math.MaxInt - rank, math.MaxInt,
	}
}

// spoilt: a copy with another number at a place.
func spoilt(l []int, at, x int) []int {
	l = slices.Clone(l)
	l[at] = x
	return l
}

// refused holds all three calls to what they answer of a list that isn't an order.
func refused(t *testing.T, l []int) {
	t.Helper()
	was := slices.Clone(l)
	if Right(l) {
		t.Errorf("P7.1: Right(%v)", l)
	}
	if whose, code := Inverse(l); len(whose) != 0 || code != api.Arg {
		t.Errorf("P7.1: Inverse(%v): %v, %d", l, whose, code)
	}
	if number, code := Number(l); number != 0 || code != api.Arg {
		t.Errorf("P7.3: Number(%v): %d, %d", l, number, code)
	}
	if !slices.Equal(l, was) {
		t.Errorf("rule 3: %v has become %v", was, l)
	}
}

func TestRight(t *testing.T) {
	for _, l := range orders() {
		if !Right(l) {
			t.Errorf("P7.1: not Right(%v)", l)
		}
	}
	for n := range 8 {
		for _, l := range everyOrder(n) {
			if !Right(l) {
				t.Errorf("P7.1: not Right(%v)", l)
			}
		}
	}
}

func TestRightOfEveryShortList(t *testing.T) {
	// All lists of up to 4 numbers, each from -2 to 5.
	for n := range 5 {
		for choice := range 1 << (3 * n) {
			l := make([]int, n)
			for v := range l {
				l[v] = choice>>(3*v)&7 - 2
			}
			if right(l) {
				if !Right(l) {
					t.Errorf("P7.1: not Right(%v)", l)
				}
				continue
			}
			refused(t, l)
		}
	}
}

func TestInverse(t *testing.T) {
	for _, c := range []struct{ l, want []int }{
		{nil, nil}, {[]int{}, nil}, {[]int{0}, []int{0}}, {[]int{1, 0}, []int{1, 0}},
		{[]int{1, 2, 0}, []int{2, 0, 1}}, {[]int{2, 0, 1}, []int{1, 2, 0}}, {[]int{3, 0, 2, 1}, []int{1, 3, 2, 0}},
		{[]int{4, 3, 0, 1, 2}, []int{2, 3, 4, 1, 0}},
	} {
		if got, code := Inverse(c.l); !slices.Equal(got, c.want) || code != api.OK {
			t.Errorf("P7.1: Inverse(%v): %v, %d, want %v", c.l, got, code, c.want)
		}
	}
	lists := orders()
	for n := range 8 {
		lists = append(lists, everyOrder(n)...)
	}
	for _, l := range lists {
		whose, code := Inverse(l)
		if len(whose) != len(l) || code != api.OK {
			t.Fatalf("P7.1: Inverse(%v): %v, %d", l, whose, code)
		}
		for v, rank := range l {
			if whose[rank] != v {
				t.Errorf("P7.1: Inverse(%v): %v", l, whose)
			}
		}
		if back, code := Inverse(whose); !slices.Equal(back, l) || code != api.OK {
			t.Errorf("P7.4: the inverse of the inverse of %v: %v, %d", l, back, code)
		}
	}
}

func TestWrongLists(t *testing.T) {
	for _, l := range orders() {
		for at, rank := range l {
			for other, x := range l {
				if other != at {
					refused(t, spoilt(l, at, x))
				}
			}
			for _, x := range wrong(len(l), rank) {
				if x >= 0 && x < len(l) {
					t.Fatalf("%d is a rank of %d vertices", x, len(l))
				}
				refused(t, spoilt(l, at, x))
			}
		}
	}
	for n := 1; n <= 24; n++ {
		refused(t, make([]int, n+1))
		from1 := make([]int, n)
		for v := range from1 {
			from1[v] = v + 1
		}
		refused(t, from1)
	}
}

func TestLongLists(t *testing.T) {
	for _, n := range []int{25, 26, 27, 32, 48, 63, 64, 65, 128, 256, 1000, 1 << 16} {
		l := make([]int, n)
		// None of them is an order, not even where each rank stands once, and not where the first 24 would be one.
		for v := range l {
			l[v] = v
		}
		refused(t, l)
		slices.Reverse(l)
		refused(t, l)
		for v := range l {
			l[v] = v % 24
		}
		refused(t, l)
		refused(t, make([]int, n))
	}
}

func TestRising(t *testing.T) {
	for _, c := range counts {
		l := Rising(c.n)
		if len(l) != c.vertices {
			t.Fatalf("P7.2: Rising(%d): %v", c.n, l)
		}
		for v, rank := range l {
			if rank != v {
				t.Errorf("P7.2: Rising(%d): %v", c.n, l)
			}
		}
	}
}

func TestFalling(t *testing.T) {
	for _, c := range counts {
		l := Falling(c.n)
		if len(l) != c.vertices {
			t.Fatalf("P7.2: Falling(%d): %v", c.n, l)
		}
		for v, rank := range l {
			if rank != c.vertices-1-v {
				t.Errorf("P7.2: Falling(%d): %v", c.n, l)
			}
		}
	}
}

func TestTurned(t *testing.T) {
	for _, c := range []struct {
		n, by int
		want  []int
	}{
		{0, 0, nil}, {0, 5, nil}, {0, -5, nil}, {-1, 3, nil}, {0, math.MinInt, nil}, {0, math.MaxInt, nil}, {math.MinInt, math.MinInt, nil},
		{1, 0, []int{0}}, {1, 7, []int{0}}, {1, -7, []int{0}}, {1, math.MinInt, []int{0}}, {1, math.MaxInt, []int{0}},
		{3, 0, []int{0, 1, 2}}, {3, 1, []int{1, 2, 0}}, {3, 2, []int{2, 0, 1}}, {3, 3, []int{0, 1, 2}}, {3, 4, []int{1, 2, 0}},
		{3, -1, []int{2, 0, 1}}, {3, -2, []int{1, 2, 0}}, {3, -3, []int{0, 1, 2}}, {3, -4, []int{2, 0, 1}},
		// 2^63 is 2 modulo 3, 3 modulo 5, 8 modulo 24.
		{3, math.MaxInt, []int{1, 2, 0}}, {3, math.MinInt, []int{1, 2, 0}},
		{5, math.MaxInt, []int{2, 3, 4, 0, 1}}, {5, math.MinInt, []int{2, 3, 4, 0, 1}},
		{24, math.MaxInt, []int{7, 8, 9, 10, 11, 12, 13, 14, 15, 16, 17, 18, 19, 20, 21, 22, 23, 0, 1, 2, 3, 4, 5, 6}},
		{99, math.MinInt, []int{16, 17, 18, 19, 20, 21, 22, 23, 0, 1, 2, 3, 4, 5, 6, 7, 8, 9, 10, 11, 12, 13, 14, 15}},
	} {
		if got := Turned(c.n, c.by); !slices.Equal(got, c.want) {
			t.Errorf("P7.2: Turned(%d, %d): %v, want %v", c.n, c.by, got, c.want)
		}
	}
}

func TestTurnedStepByStep(t *testing.T) {
	for _, c := range counts {
		for _, from := range []int{math.MinInt, -1<<32 - 30, -60, 0, 1<<32 - 30, math.MaxInt - 120} {
			was := Turned(c.n, from)
			for k := range 120 {
				by := from + 1 + k
				l := Turned(c.n, by)
				if len(l) != c.vertices {
					t.Fatalf("P7.2: Turned(%d, %d): %v", c.n, by, l)
				}
				for v, rank := range l {
					// By one more, each has the next rank, and the last one the first.
					if want := was[v] + 1; rank != want && (rank != 0 || want != c.vertices) {
						t.Fatalf("P7.2: Turned(%d, %d): %v, by one less %v", c.n, by, l, was)
					}
				}
				was = l
			}
		}
		for _, times := range []int{-3, -2, -1, 0, 1, 2, 3} {
			if got := Turned(c.n, times*c.vertices); !slices.Equal(got, Rising(c.n)) {
				t.Errorf("P7.2: Turned(%d) by %d times n: %v", c.n, times, got)
			}
		}
	}
}

func TestOf(t *testing.T) {
	for _, c := range []struct {
		n      int
		number uint64
		want   []int
	}{
		{0, 0, nil}, {0, 1, nil}, {0, math.MaxUint64, nil}, {-1, 7, nil}, {math.MinInt, math.MaxUint64, nil},
		{1, 0, []int{0}}, {1, 1, []int{0}}, {1, math.MaxUint64, []int{0}}, {2, 0, []int{0, 1}}, {2, 1, []int{1, 0}}, {2, 2, []int{0, 1}}, {2, math.MaxUint64, []int{1, 0}},
		{3, 0, []int{0, 1, 2}}, {3, 1, []int{1, 0, 2}}, {3, 2, []int{1, 2, 0}}, {3, 3, []int{0, 2, 1}}, {3, 4, []int{2, 0, 1}}, {3, 5, []int{2, 1, 0}},
		{3, 6, []int{0, 1, 2}}, {3, 7, []int{1, 0, 2}}, {4, 9, []int{2, 0, 3, 1}}, {5, 77, []int{2, 4, 0, 3, 1}},
		{20, 2432902008176639998, []int{19, 18, 17, 16, 15, 14, 13, 12, 11, 10, 9, 8, 7, 6, 5, 4, 3, 2, 0, 1}},
		{20, 1234567890123456789, []int{8, 15, 6, 16, 10, 9, 3, 11, 13, 0, 17, 2, 12, 19, 5, 7, 18, 4, 1, 14}},
		{20, math.MaxUint64, []int{17, 1, 9, 7, 8, 11, 13, 12, 16, 5, 19, 18, 15, 6, 14, 0, 3, 4, 10, 2}},
		{21, 21, []int{0, 2, 1, 3, 4, 5, 6, 7, 8, 9, 10, 11, 12, 13, 14, 15, 16, 17, 18, 19, 20}},
		{21, math.MaxUint64, []int{1, 17, 15, 19, 6, 5, 7, 8, 11, 4, 20, 2, 9, 16, 13, 0, 18, 3, 10, 12, 14}},
		{22, 20, []int{1, 2, 3, 4, 5, 6, 7, 8, 9, 10, 11, 12, 13, 14, 15, 16, 17, 18, 19, 20, 0, 21}},
		{23, 1 << 63, []int{17, 8, 10, 0, 6, 16, 1, 18, 14, 11, 2, 13, 19, 20, 12, 21, 5, 15, 7, 4, 3, 9, 22}},
		{24, 23, []int{1, 2, 3, 4, 5, 6, 7, 8, 9, 10, 11, 12, 13, 14, 15, 16, 17, 18, 19, 20, 21, 22, 23, 0}},
		{24, 1234567890123456789, []int{15, 11, 16, 13, 9, 1, 17, 18, 12, 10, 19, 20, 8, 4, 6, 3, 21, 14, 2, 7, 5, 0, 22, 23}},
		{24, math.MaxUint64, []int{17, 15, 5, 16, 18, 11, 19, 10, 6, 2, 7, 20, 21, 1, 14, 0, 8, 22, 12, 3, 9, 13, 23, 4}},
	} {
		if got := Of(c.n, c.number); !slices.Equal(got, c.want) {
			t.Errorf("P7.2: Of(%d, %d): %v, want %v", c.n, c.number, got, c.want)
		}
	}
	for _, c := range counts {
		for _, number := range numbers() {
			if got, want := Of(c.n, number), plainOf(c.vertices, number); !slices.Equal(got, want) || !Right(got) {
				t.Errorf("P7.2: Of(%d, %d): %v, want %v", c.n, number, got, want)
			}
		}
		if got := Of(c.n, 0); !slices.Equal(got, Rising(c.n)) {
			t.Errorf("P7.2: Of(%d, 0): %v", c.n, got)
		}
	}
}

func TestNumber(t *testing.T) {
	for _, c := range []struct {
		l    []int
		want uint64
	}{
		{nil, 0}, {[]int{}, 0}, {[]int{0}, 0}, {[]int{0, 1}, 0}, {[]int{1, 0}, 1}, {[]int{0, 1, 2}, 0}, {[]int{1, 0, 2}, 1}, {[]int{1, 2, 0}, 2},
		{[]int{0, 2, 1}, 3}, {[]int{2, 0, 1}, 4}, {[]int{2, 1, 0}, 5}, {[]int{2, 0, 3, 1}, 9}, {[]int{2, 4, 0, 3, 1}, 77},
		{[]int{8, 15, 6, 16, 10, 9, 3, 11, 13, 0, 17, 2, 12, 19, 5, 7, 18, 4, 1, 14}, 1234567890123456789},
	} {
		if got, code := Number(c.l); got != c.want || code != api.OK {
			t.Errorf("P7.3: Number(%v): %d, %d, want %d", c.l, got, code, c.want)
		}
	}
	for n, all := range allOf {
		if got, code := Number(Rising(n)); got != 0 || code != api.OK {
			t.Errorf("P7.3: Number(Rising(%d)): %d, %d", n, got, code)
		}
		if got, code := Number(Falling(n)); got != all-1 || code != api.OK {
			t.Errorf("P7.3: Number(Falling(%d)): %d, %d, want %d", n, got, code, all-1)
		}
		for _, number := range numbers() {
			if got, code := Number(Of(n, number)); got != number%all || code != api.OK {
				t.Errorf("P7.3: Number(Of(%d, %d)): %d, %d, want %d", n, number, got, code, number%all)
			}
		}
	}
	for _, l := range orders() {
		if len(l) > 20 {
			continue
		}
		number, code := Number(l)
		if back := plainOf(len(l), number); !slices.Equal(back, l) || number >= allOf[len(l)] || code != api.OK {
			t.Errorf("P7.3: Number(%v): %d, %d, which is that of %v", l, number, code, back)
		}
	}
}

func TestNumberOfMany(t *testing.T) {
	for _, l := range orders() {
		number, code := Number(l)
		if long := code == api.Long; long != (len(l) > 20) || long && number != 0 {
			t.Errorf("P7.3: Number of %d vertices: %d, %d", len(l), number, code)
		}
	}
	for n := 21; n <= 24; n++ {
		// An order of so many is too long even where it has a small number; a list that is none is Arg all the same.
		for _, number := range numbers() {
			if got, code := Number(Of(n, number)); got != 0 || code != api.Long {
				t.Errorf("P7.3: Number(Of(%d, %d)): %d, %d", n, number, got, code)
			}
		}
		if got, code := Number(spoilt(Rising(n), n-1, 0)); got != 0 || code != api.Arg {
			t.Errorf("P7.3: Number of %d that are no order: %d, %d", n, got, code)
		}
	}
}

func TestEachOrderHasItsNumber(t *testing.T) {
	for n := range 9 {
		lists := everyOrder(n)
		if uint64(len(lists)) != allOf[n] {
			t.Fatalf("%d orders of %d vertices", len(lists), n)
		}
		seen := make([]bool, len(lists))
		for _, l := range lists {
			number, code := Number(l)
			if code != api.OK || number >= allOf[n] || seen[number] {
				t.Fatalf("P7.4: Number(%v): %d, %d, too great or another one's", l, number, code)
			}
			seen[number] = true
			if back := Of(n, number); !slices.Equal(back, l) {
				t.Errorf("P7.3: Number(%v): %d, which is that of %v", l, number, back)
			}
		}
	}
}

func TestTheLeastNumber(t *testing.T) {
	for n := range 6 {
		// Gone through from 0 on, as many times as would show a lesser one.
		for number := range 3 * allOf[n] {
			l := plainOf(n, number)
			least := uint64(0)
			for !slices.Equal(plainOf(n, least), l) {
				least++
			}
			if got, code := Number(l); got != least || code != api.OK {
				t.Errorf("P7.3: Number(%v): %d, %d, want %d", l, got, code, least)
			}
		}
	}
}

func TestHandedOutStops(t *testing.T) {
	for _, n := range []int{1, 2, 5, 24} {
		each := handedOut(n, math.MaxUint64)
		whole := Of(n, math.MaxUint64)
		for ask := 1; ask <= n+1; ask++ {
			count := 0
			for rank, v := range each {
				if rank != count || whole[v] != rank {
					t.Errorf("P7.2: of %d, number %d handed out: rank %d to %d", n, count, rank, v)
				}
				count++
				if count == ask {
					break
				}
			}
			if count != min(ask, n) {
				t.Errorf("P7.2: of %d, %d asked for: %d handed out", n, ask, count)
			}
		}
	}
}

func TestWhatIsHandedInStays(t *testing.T) {
	for _, l := range orders() {
		n := len(l)
		room := slices.Concat(l, slices.Repeat([]int{-7}, 30))
		was := slices.Clone(room)
		Right(room[:n])
		Number(room[:n])
		whose, _ := Inverse(room[:n])
		if !slices.Equal(room, was) {
			t.Errorf("rule 3: %v has become %v", was, room)
		}
		want := slices.Clone(whose)
		clear(room)
		if !slices.Equal(whose, want) {
			t.Errorf("rule 3: the inverse %v hangs on what was handed in", want)
		}
		copy(room, was)
		clear(whose[:cap(whose)])
		if !slices.Equal(room, was) {
			t.Errorf("rule 3: %v hangs on what was answered", was)
		}
	}
}

func TestAnswersAreApart(t *testing.T) {
	for _, n := range []int{1, 2, 20, 21, 24} {
		for i, made := range []func() []int{
			func() []int { return Rising(n) },
			func() []int { return Falling(n) },
			func() []int { return Turned(n, 1) },
			func() []int { return Of(n, math.MaxUint64) },
			func() []int { l, _ := Inverse(Turned(n, 1)); return l },
		} {
			first := made()
			want := slices.Clone(first)
			for v := range first {
				first[v] = -1
			}
			if got := made(); !slices.Equal(got, want) {
				t.Errorf("rule 5: call %d of %d vertices, again: %v, want %v", i, n, got, want)
			}
		}
	}
}
