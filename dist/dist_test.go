package dist

import (
	"math"
	"math/big"
	"slices"
	"strconv"
	"strings"
	"testing"

	"ringroad/api"
)

// edges are the numbers at which something about distances turns, and some between.
var edges = []int{
	math.MinInt, math.MinInt + 1, -api.None, -api.Most, -2, -1, 0, 1, 2, 7,
	api.Most/2 - 1, api.Most / 2, api.Most/2 + 1, api.Most - 2, api.Most - 1, api.Most,
	api.Far, api.None, api.None + 1, api.None + 2, math.MaxInt - 1, math.MaxInt,
}

// wantNorm says by the words of the document what a counts as.
func wantNorm(a int) int {
	if a < 0 {
		return 0
	}
	if a > api.None {
		return api.None
	}
	return a
}

// wantSum adds without any bound, and looks at the bound at the end alone.
func wantSum(l []int) int {
	sum := new(big.Int)
	far := false
	for _, a := range l {
		switch a = wantNorm(a); a {
		case api.None:
			return api.None
		case api.Far:
			far = true
		default:
			sum.Add(sum, big.NewInt(int64(a)))
		}
	}
	if far || sum.Cmp(big.NewInt(api.Most)) > 0 {
		return api.Far
	}
	return int(sum.Int64())
}

func wantMin(l []int) int {
	least := api.None
	for _, a := range l {
		if wantNorm(a) < least {
			least = wantNorm(a)
		}
	}
	return least
}

// lists calls f with each list of up to three edges.
func lists(f func(l []int)) {
	f(nil)
	f([]int{})
	for _, a := range edges {
		f([]int{a})
		for _, b := range edges {
			f([]int{a, b})
			for _, c := range edges {
				f([]int{a, b, c})
			}
		}
	}
}

func TestNorm(t *testing.T) {
	for _, c := range []struct{ a, want int }{
		{0, 0}, {1, 1}, {12345, 12345}, {-1, 0}, {math.MinInt, 0},
		{api.Most - 1, api.Most - 1}, {api.Most, api.Most}, {api.Far, api.Far}, {api.None, api.None},
		{api.None + 1, api.None}, {math.MaxInt, api.None},
	} {
		if got := Norm(c.a); got != c.want {
			t.Errorf("P1.1: Norm(%d): %d, want %d", c.a, got, c.want)
		}
	}
}

func TestAdd(t *testing.T) {
	for _, c := range []struct {
		l    []int
		want int
	}{
		{nil, 0},
		{[]int{}, 0},
		{[]int{5}, 5},
		{[]int{-5}, 0},
		{[]int{math.MaxInt}, api.None},
		{[]int{1, 2, 3, 4}, 10},
		{[]int{-9, 4}, 4},
		{[]int{4, math.MinInt}, 4},
		{[]int{api.Most, 0}, api.Most},
		{[]int{api.Most - 3, 1, 2}, api.Most},
		{[]int{api.Most - 3, 1, 3}, api.Far},
		{[]int{api.Most, 1}, api.Far},
		{[]int{1, api.Most}, api.Far},
		{[]int{api.Most / 2, api.Most / 2}, api.Most},
		{[]int{api.Most, api.Most}, api.Far},
		{[]int{api.Most, api.Most, api.Most, api.Most, api.Most}, api.Far},
		{[]int{api.Far}, api.Far},
		{[]int{api.Far, 0}, api.Far},
		{[]int{api.Far, 1}, api.Far},
		{[]int{api.Far, api.Far}, api.Far},
		{[]int{api.Far, -1}, api.Far},
		{[]int{api.None}, api.None},
		{[]int{api.None, 0}, api.None},
		{[]int{0, api.None}, api.None},
		{[]int{api.Far, api.None}, api.None},
		{[]int{api.None, api.Far}, api.None},
		{[]int{api.Most, api.Most, api.None}, api.None},
		{[]int{api.None, api.None}, api.None},
		{[]int{math.MaxInt, math.MaxInt}, api.None},
		{[]int{math.MaxInt, math.MinInt}, api.None},
	} {
		if got := Add(c.l...); got != c.want {
			t.Errorf("P1.1: Add(%v): %d, want %d", c.l, got, c.want)
		}
	}
}

func TestMin(t *testing.T) {
	for _, c := range []struct {
		l    []int
		want int
	}{
		{nil, api.None},
		{[]int{}, api.None},
		{[]int{5}, 5},
		{[]int{5, 3, 4}, 3},
		{[]int{3, -7}, 0},
		{[]int{-7, -8}, 0},
		{[]int{api.Far, api.Most}, api.Most},
		{[]int{api.None, api.Far}, api.Far},
		{[]int{api.Far, math.MaxInt}, api.Far},
		{[]int{api.None, api.None}, api.None},
		{[]int{math.MaxInt}, api.None},
	} {
		if got := Min(c.l...); got != c.want {
			t.Errorf("P1.1: Min(%v): %d, want %d", c.l, got, c.want)
		}
	}
}

// What is added, and the least one, of every list of up to three edges, held against sums without bound.
func TestAddMinEdges(t *testing.T) {
	lists(func(l []int) {
		if got, want := Add(l...), wantSum(l); got != want {
			t.Errorf("P1.1: Add(%v): %d, want %d", l, got, want)
		}
		if got, want := Min(l...), wantMin(l); got != want {
			t.Errorf("P1.1: Min(%v): %d, want %d", l, got, want)
		}
	})
}

func TestAddManyNumbers(t *testing.T) {
	l := make([]int, 1<<16)
	for i := range l {
		l[i] = api.Most >> 16
	}
	if got := Add(l...); got != api.Most {
		t.Errorf("P1.1: many numbers just at Most: %d", got)
	}
	if got := Add(append(l, 1)...); got != api.Far {
		t.Errorf("P1.1: many numbers just above Most: %d", got)
	}
	for i := range l {
		l[i] = api.Most
	}
	if got := Add(l...); got != api.Far {
		t.Errorf("P1.1: Most many times: %d", got)
	}
}

func TestLessTold(t *testing.T) {
	for _, a := range edges {
		if got, want := Norm(a), wantNorm(a); got != want {
			t.Errorf("P1.1: Norm(%d): %d, want %d", a, got, want)
		}
		if got, want := Told(a), wantNorm(a) <= api.Most; got != want {
			t.Errorf("P1.1: Told(%d): %v", a, got)
		}
		for _, b := range edges {
			if got, want := Less(a, b), wantNorm(a) < wantNorm(b); got != want {
				t.Errorf("P1.1: Less(%d, %d): %v", a, b, got)
			}
		}
	}
	if Less(-2, -1) || Less(-1, 0) || Less(api.None, math.MaxInt) || !Less(api.Most, api.Far) || !Less(api.Far, math.MaxInt) {
		t.Error("P1.1: Less of numbers that count as others")
	}
	if !Told(0) || !Told(api.Most) || !Told(math.MinInt) || Told(api.Far) || Told(api.None) || Told(math.MaxInt) {
		t.Error("P1.1: Told")
	}
}

func TestArgumentsStay(t *testing.T) {
	l := []int{-3, 4, math.MaxInt, 9, 9, 9}
	was := slices.Clone(l)
	Add(l[:3]...)
	Min(l[:3]...)
	if !slices.Equal(l, was) {
		t.Errorf("P1.1: the list is %v now, was %v", l, was)
	}
}

func TestWeight(t *testing.T) {
	for _, c := range []struct {
		a    int
		want bool
	}{
		{math.MinInt, false}, {-1, false}, {0, false},
		{1, true}, {2, true}, {1000, true}, {api.Most - 1, true}, {api.Most, true},
		{api.Far, false}, {api.None, false}, {api.None + 1, false}, {math.MaxInt, false},
	} {
		if got := Weight(c.a); got != c.want {
			t.Errorf("P1.2: Weight(%d): %v", c.a, got)
		}
	}
}

func TestText(t *testing.T) {
	for _, c := range []struct {
		a    int
		want string
	}{
		{0, "0"}, {7, "7"}, {10, "10"}, {1234567890, "1234567890"},
		{api.Most - 1, "4611686018427387903"}, {api.Most, "4611686018427387904"},
		{api.Far, "far"}, {api.None, "none"},
		{-1, "0"}, {math.MinInt, "0"}, {api.None + 1, "none"}, {math.MaxInt, "none"},
	} {
		if got := Text(c.a); got != c.want {
			t.Errorf("P1.3: Text(%d): %q, want %q", c.a, got, c.want)
		}
	}
}

func TestParse(t *testing.T) {
	for _, c := range []struct {
		s    string
		want int
	}{
		{"0", 0}, {"9", 9}, {"10", 10}, {"100", 100}, {"1234567890", 1234567890},
		{"4611686018427387903", api.Most - 1}, {"4611686018427387904", api.Most},
		{"far", api.Far}, {"none", api.None},
	} {
		if got, ok := Parse(c.s); got != c.want || !ok {
			t.Errorf("P1.3: Parse(%q): %d %v, want %d", c.s, got, ok, c.want)
		}
	}
}

func TestParseWrong(t *testing.T) {
	for _, s := range []string{
		"", " ", "00", "01", "007", "-0", "+0", "-1", "+1", "--1", "-", "+",
		" 1", "1 ", "1\n", "\t1", "1 2", "1.0", "1.", ".1", "1e3", "0x1", "0b1", "0o7", "1_000", "_1", "1a", "a1", "a",
		"4611686018427387905", "4611686018427387906", "4611686018427387907",
		"9223372036854775807", "9223372036854775808", "18446744073709551616", "18446744073709551617",
		"-9223372036854775808", "-9223372036854775809",
		"Far", "FAR", "far ", " far", "fa", "farr", "-far", "far\x00",
		"None", "NONE", "none ", " none", "non", "nonee", "farnone",
		"\x00", "0\x00", "\xff", "\u0661", "\uff11", "1\u00a0", "\u2212" + "1",
		strings.Repeat("0", 1000), strings.Repeat("9", 1000), strings.Repeat("9", 20) + "0",
	} {
		if got, ok := Parse(s); got != 0 || ok {
			t.Errorf("P1.3: Parse(%q): %d %v", s, got, ok)
		}
	}
}

func TestTextAndBack(t *testing.T) {
	tried := slices.Clone(edges)
	for n := 1; n > 0 && n <= api.Most/3; n *= 3 {
		tried = append(tried, n-1, n, n+1)
	}
	for n := 1; n > 0 && n <= api.Most/10; n *= 10 {
		tried = append(tried, n-1, n, n+1)
	}
	for _, a := range tried {
		s := Text(a)
		if got, ok := Parse(s); got != wantNorm(a) || !ok {
			t.Errorf("P1.3: Parse(Text(%d)) = Parse(%q): %d %v", a, s, got, ok)
		}
		if wantNorm(a) <= api.Most && s != strconv.Itoa(wantNorm(a)) {
			t.Errorf("P1.3: Text(%d): %q", a, s)
		}
	}
}

func TestAddAnyOrder(t *testing.T) {
	for _, a := range edges {
		for _, b := range edges {
			for _, c := range edges {
				sum := Add(a, b, c)
				for _, other := range []int{
					Add(a, c, b), Add(b, a, c), Add(b, c, a), Add(c, a, b), Add(c, b, a),
					Add(Add(a, b), c), Add(a, Add(b, c)), Add(Add(a, c), b),
				} {
					if other != sum {
						t.Fatalf("P1.4: %d, %d, %d in another order: %d, not %d", a, b, c, other, sum)
					}
				}
			}
		}
	}
}

func TestAddToLeast(t *testing.T) {
	for _, a := range edges {
		if Add(a, Min()) != Min() {
			t.Errorf("P1.4: %d and the least of none: %d", a, Add(a, Min()))
		}
		for _, b := range edges {
			for _, c := range edges {
				if got, want := Add(a, Min(b, c)), Min(Add(a, b), Add(a, c)); got != want {
					t.Fatalf("P1.4: %d and the least of %d and %d: %d, the least of the sums: %d", a, b, c, got, want)
				}
			}
		}
	}
}

func TestAddNeverLess(t *testing.T) {
	lists(func(l []int) {
		sum := Add(l...)
		for _, a := range edges {
			if more := Add(append(slices.Clone(l), a)...); Less(more, sum) || Less(more, a) {
				t.Errorf("P1.4: %v and %d: %d", l, a, more)
			}
		}
	})
}
