package ring

import (
	"math"
	"slices"
	"strconv"
	"testing"

	"ringroad/api"
)

// pair is a thing of two parts.
type pair struct {
	number int
	text   string
}

// plain is a stack told in the tests' own form: what lies on it, the oldest first.
type plain[T any] struct {
	room int
	on   []T
}

// push: as P6.1 asks.
func (q *plain[T]) push(v T) (T, bool) {
	q.on = append(q.on, v)
	if len(q.on) <= q.room {
		return *new(T), false
	}
	gone := q.on[0]
	q.on = slices.Clone(q.on[1:])
	return gone, true
}

// top: as P6.1 asks.
func (q *plain[T]) top() (T, bool) {
	if len(q.on) == 0 {
		return *new(T), false
	}
	return q.on[len(q.on)-1], true
}

// pop: as P6.1 asks.
func (q *plain[T]) pop() (T, bool) {
	v, ok := q.top()
	if ok {
		q.on = slices.Clone(q.on[:len(q.on)-1])
	}
	return v, ok
}

// list: all of them, from the top down.
func (q *plain[T]) list() []T {
	l := slices.Clone(q.on)
	slices.Reverse(l)
	return l
}

// made: a stack with such a room, and its plain form.
func made[T any](t *testing.T, room int) (*Stack[T], *plain[T]) {
	t.Helper()
	s, code := New[T](room)
	if s == nil || code != api.OK {
		t.Fatalf("P6.1: New(%d): %v, %d", room, s, code)
	}
	return s, &plain[T]{room: room}
}

// filled: a stack on which there is no room, with so many gone ahead, and its plain form.
func filled(t *testing.T, room, ahead int) (*Stack[int], *plain[int]) {
	t.Helper()
	s, q := made[int](t, room)
	for v := range room + ahead {
		pushes(t, s, q, 100+v)
	}
	return s, q
}

// held holds all that a stack tells against its plain form.
func held[T comparable](t *testing.T, s *Stack[T], q *plain[T]) {
	t.Helper()
	if s.Len() != len(q.on) || s.Room() != q.room {
		t.Fatalf("P6.2: Len %d, Room %d, want %d, %d", s.Len(), s.Room(), len(q.on), q.room)
	}
	want, some := q.top()
	if got, ok := s.Top(); got != want || ok != some {
		t.Fatalf("P6.1: Top: %v, %v, want %v, %v", got, ok, want, some)
	}
	if got, want := slices.Collect(s.All()), q.list(); !slices.Equal(got, want) {
		t.Fatalf("P6.2: All: %v, want %v", got, want)
	}
}

// pushes pushes one onto both forms, and holds what went against each other.
func pushes[T comparable](t *testing.T, s *Stack[T], q *plain[T], v T) {
	t.Helper()
	want, some := q.push(v)
	if got, ok := s.Push(v); got != want || ok != some {
		t.Fatalf("P6.1: Push(%v): %v, %v, want %v, %v", v, got, ok, want, some)
	}
}

// pops pops one from both forms, and holds what comes against each other.
func pops[T comparable](t *testing.T, s *Stack[T], q *plain[T]) {
	t.Helper()
	want, some := q.pop()
	if got, ok := s.Pop(); got != want || ok != some {
		t.Fatalf("P6.1: Pop: %v, %v, want %v, %v", got, ok, want, some)
	}
}

func TestExample(t *testing.T) {
	s, _ := made[int](t, 2)
	for _, v := range []int{1, 2} {
		if gone, full := s.Push(v); gone != 0 || full {
			t.Errorf("P6.1: Push(%d): %d, %v", v, gone, full)
		}
	}
	if gone, full := s.Push(3); gone != 1 || !full {
		t.Errorf("P6.1: Push(3): %d, %v", gone, full)
	}
	for _, want := range []int{3, 2} {
		if v, ok := s.Pop(); v != want || !ok {
			t.Errorf("P6.1: Pop: %d, %v, want %d", v, ok, want)
		}
	}
	if v, ok := s.Pop(); v != 0 || ok {
		t.Errorf("P6.1: Pop of none: %d, %v", v, ok)
	}
}

func TestNew(t *testing.T) {
	for room := 1; room <= 32; room++ {
		s, q := made[int](t, room)
		if s.Len() != 0 || s.Room() != room {
			t.Errorf("P6.2: a new stack with room for %d: Len %d, Room %d", room, s.Len(), s.Room())
		}
		held(t, s, q)
		for v := range room {
			pushes(t, s, q, v+1)
			held(t, s, q)
		}
		if s.Len() != room || s.Room() != room {
			t.Errorf("P6.2: a full stack with room for %d: Len %d, Room %d", room, s.Len(), s.Room())
		}
	}
}

func TestNewWrong(t *testing.T) {
	for _, room := range []int{
		math.MinInt, math.MinInt + 1, math.MinInt32, -1 << 32, -1<<32 + 5, -256, -33, -32, -31, -2, -1, 0,
		33, 34, 63, 64, 65, 128, 256, 257, 1 << 16, math.MaxInt32, 1 << 32, 1<<32 + 5, math.MaxInt - 1, math.MaxInt,
	} {
		if s, code := New[int](room); s != nil || code != api.Arg {
			t.Errorf("P6.1: New(%d) of numbers: %v, %d", room, s, code)
		}
		if s, code := New[string](room); s != nil || code != api.Arg {
			t.Errorf("P6.1: New(%d) of texts: %v, %d", room, s, code)
		}
		if s, code := New[pair](room); s != nil || code != api.Arg {
			t.Errorf("P6.1: New(%d) of pairs: %v, %d", room, s, code)
		}
		if s, code := New[func()](room); s != nil || code != api.Arg {
			t.Errorf("P6.1: New(%d) of functions: %v, %d", room, s != nil, code)
		}
	}
}

// typed pushes and pops things of a type, and holds the stack against its plain form meanwhile.
func typed[T comparable](t *testing.T, things ...T) {
	t.Helper()
	for _, room := range []int{1, 2, 5, 31, 32} {
		s, q := made[T](t, room)
		for round := range 4 {
			for i := range 2*room + round {
				pushes(t, s, q, things[(i+round)%len(things)])
				held(t, s, q)
			}
			for range room + 1 {
				pops(t, s, q)
				held(t, s, q)
			}
		}
	}
}

func TestTypes(t *testing.T) {
	typed(t, 0, 1, -1, math.MinInt, math.MaxInt, api.None)
	typed(t, "", "a", "0", "\x00", "\xff", "é")
	typed(t, pair{}, pair{1, ""}, pair{0, "a"}, pair{-1, "b"})
	typed(t, api.Arc{}, api.Arc{Tail: 1}, api.Arc{Head: 2, Weight: 3, Closed: true})
	typed(t, [2]int{}, [2]int{0, 1}, [2]int{1, 0})
	typed(t, false, true)
	typed[any](t, nil, 1, "1", pair{1, "1"})
	typed(t, struct{}{})
}

func TestFunctions(t *testing.T) {
	s, _ := made[func() int](t, 3)
	for v := range 5 {
		gone, full := s.Push(func() int { return v })
		if full != (v >= 3) || (gone != nil) != full {
			t.Fatalf("P6.1: Push of function %d: %v, %v", v, gone != nil, full)
		}
		if full && gone() != v-3 {
			t.Errorf("P6.1: Push of function %d: %d went", v, gone())
		}
	}
	for _, want := range []int{4, 3, 2} {
		if f, ok := s.Pop(); !ok || f() != want {
			t.Errorf("P6.1: Pop, function %d wanted", want)
		}
	}
	if f, ok := s.Pop(); f != nil || ok {
		t.Errorf("P6.1: Pop of no function: %v, %v", f != nil, ok)
	}
}

func TestZeroIsSomething(t *testing.T) {
	s, _ := made[string](t, 2)
	s.Push("")
	if v, ok := s.Top(); v != "" || !ok || s.Len() != 1 {
		t.Errorf("P6.1: Top of no text: %q, %v, Len %d", v, ok, s.Len())
	}
	s.Push("a")
	if gone, full := s.Push("b"); gone != "" || !full {
		t.Errorf("P6.1: no text goes: %q, %v", gone, full)
	}
	s.Push("")
	if v, ok := s.Pop(); v != "" || !ok || s.Len() != 1 {
		t.Errorf("P6.1: Pop of no text: %q, %v, Len %d", v, ok, s.Len())
	}
	if got := slices.Collect(s.All()); !slices.Equal(got, []string{"b"}) {
		t.Errorf("P6.2: All: %q", got)
	}
}

func TestPushOntoFull(t *testing.T) {
	for room := 1; room <= 32; room++ {
		s, q := made[string](t, room)
		for k := range 200 {
			gone, full := s.Push(strconv.Itoa(k))
			want := ""
			if k >= room {
				want = strconv.Itoa(k - room)
			}
			if gone != want || full != (k >= room) {
				t.Fatalf("P6.1: room %d, Push number %d: %q, %v, want %q", room, k, gone, full, want)
			}
			q.push(strconv.Itoa(k))
			if s.Len() != min(k+1, room) || s.Room() != room {
				t.Fatalf("P6.2: room %d, behind %d Pushes: Len %d, Room %d", room, k+1, s.Len(), s.Room())
			}
			held(t, s, q)
		}
	}
}

func TestLastRoom(t *testing.T) {
	for room := 1; room <= 32; room++ {
		for ahead := range room + 1 {
			s, q := filled(t, room, ahead)
			for k := range 3 * room {
				pops(t, s, q)
				if gone, full := s.Push(-k); gone != 0 || full {
					t.Fatalf("P6.1: the last room of %d is taken: %d, %v", room, gone, full)
				}
				q.push(-k)
				held(t, s, q)
				pushes(t, s, q, k)
				held(t, s, q)
			}
		}
	}
}

func TestEmpty(t *testing.T) {
	for room := 1; room <= 32; room++ {
		s, q := made[string](t, room)
		for round := range 2*room + 1 {
			for range 3 {
				if v, ok := s.Top(); v != "" || ok {
					t.Fatalf("P6.1: Top of none, room %d: %q, %v", room, v, ok)
				}
				if v, ok := s.Pop(); v != "" || ok {
					t.Fatalf("P6.1: Pop of none, room %d: %q, %v", room, v, ok)
				}
				for range s.All() {
					t.Fatalf("P6.2: All of none, room %d, gives one", room)
				}
				if s.Len() != 0 || s.Room() != room {
					t.Fatalf("P6.2: of none: Len %d, Room %d, want 0, %d", s.Len(), s.Room(), room)
				}
			}
			for k := range round {
				pushes(t, s, q, "a"+strconv.Itoa(k))
			}
			held(t, s, q)
			for s.Len() > 0 {
				pops(t, s, q)
			}
		}
	}
}

func TestOneThing(t *testing.T) {
	for room := 1; room <= 32; room++ {
		s, q := made[pair](t, room)
		for k := range 3 * room {
			v := pair{k, "one"}
			pushes(t, s, q, v)
			held(t, s, q)
			if top, ok := s.Top(); top != v || !ok || s.Len() != 1 {
				t.Fatalf("P6.1: Top of one, room %d: %v, %v, Len %d", room, top, ok, s.Len())
			}
			if got, ok := s.Pop(); got != v || !ok || s.Len() != 0 {
				t.Fatalf("P6.1: Pop of one, room %d: %v, %v, Len %d", room, got, ok, s.Len())
			}
			q.pop()
			held(t, s, q)
		}
	}
}

func TestRoomForOne(t *testing.T) {
	s, q := made[int](t, 1)
	for k := range 100 {
		pushes(t, s, q, k)
		held(t, s, q)
		if v, ok := s.Top(); v != k || !ok || s.Len() != 1 || s.Room() != 1 {
			t.Fatalf("P6.1: room for one, Top behind Push(%d): %d, %v, Len %d", k, v, ok, s.Len())
		}
		if k%3 == 2 {
			pops(t, s, q)
			held(t, s, q)
			pops(t, s, q)
			held(t, s, q)
		}
	}
}

func TestLastComesOffFirst(t *testing.T) {
	// Of any count of Pushes the last ones come off, as many as there is room for, wherever the ring begins.
	for room := 1; room <= 32; room++ {
		for ahead := range room {
			for count := range 2*room + 2 {
				s, _ := made[int](t, room)
				for range ahead {
					s.Push(-1)
				}
				for range ahead {
					s.Pop()
				}
				for v := range count {
					s.Push(v)
				}
				kept := min(count, room)
				for k := range kept {
					if v, ok := s.Pop(); v != count-1-k || !ok {
						t.Fatalf("P6.3: room %d, %d pushed: number %d off is %d, %v", room, count, k, v, ok)
					}
				}
				if v, ok := s.Pop(); v != 0 || ok {
					t.Fatalf("P6.3: room %d, %d pushed: behind them comes %d, %v", room, count, v, ok)
				}
			}
		}
	}
}

func TestNoneIsLost(t *testing.T) {
	// Whatever lies on a full stack: all that is pushed where there is room is still there, and so is what lay below it.
	for _, room := range []int{1, 2, 3, 7, 31, 32} {
		for ahead := range room {
			for off := range room + 1 {
				s, q := filled(t, room, ahead)
				for range off {
					pops(t, s, q)
				}
				for k := range off {
					if gone, full := s.Push(-k); gone != 0 || full {
						t.Fatalf("P6.3: room %d: %d went though there was room", room, gone)
					}
					q.push(-k)
				}
				held(t, s, q)
				for range room + 1 {
					pops(t, s, q)
				}
			}
		}
	}
}

func TestAllStops(t *testing.T) {
	for _, room := range []int{1, 2, 3, 7, 32} {
		for ahead := range room + 1 {
			s, q := filled(t, room, ahead)
			for s.Len() > 0 {
				asked(t, s, q)
				pops(t, s, q)
			}
			s.All()(func(v int) bool {
				t.Errorf("P6.2: All of none gives %d", v)
				return true
			})
		}
	}
}

// asked asks All for each count of them, and for one more than there are.
func asked(t *testing.T, s *Stack[int], q *plain[int]) {
	t.Helper()
	want := q.list()
	for ask := 1; ask <= len(want)+1; ask++ {
		var got []int
		late, over := 0, false
		s.All()(func(v int) bool {
			if over {
				late++
				return false
			}
			got = append(got, v)
			over = len(got) == ask
			return !over
		})
		if !slices.Equal(got, want[:min(ask, len(want))]) {
			t.Errorf("P6.2: All, %d asked for: %v, want the first of %v", ask, got, want)
		}
		if late != 0 {
			t.Errorf("P6.2: All gives %d more than the %d that are asked for", late, ask)
		}
	}
	for v := range s.All() {
		if v != want[0] {
			t.Errorf("P6.2: the first of All: %d, want %d", v, want[0])
		}
		break
	}
	held(t, s, q)
}

func TestAllAgain(t *testing.T) {
	s, q := filled(t, 9, 5)
	want := q.list()
	each := s.All()
	for range 3 {
		for range each {
			break
		}
		if got := slices.Collect(each); !slices.Equal(got, want) {
			t.Errorf("P6.2: All, gone through again: %v, want %v", got, want)
		}
	}
	count := 0
	for x := range each {
		for y := range each {
			if x != want[count/9] || y != want[count%9] {
				t.Fatalf("P6.2: All within All, number %d: %d, %d", count, x, y)
			}
			count++
		}
	}
	if count != 81 {
		t.Errorf("P6.2: All within All gives %d", count)
	}
	held(t, s, q)
}

func TestLookingLeavesTheStack(t *testing.T) {
	for _, room := range []int{1, 2, 20, 32} {
		for ahead := range 2 * room {
			s, q := filled(t, room, ahead)
			for s.Len() > 0 {
				for range 40 {
					s.Top()
					s.Len()
					s.Room()
				}
				held(t, s, q)
				held(t, s, q)
				pops(t, s, q)
			}
			held(t, s, q)
		}
	}
}

func TestStacksAreApart(t *testing.T) {
	s, q := filled(t, 6, 2)
	other, p := made[int](t, 6)
	held(t, other, p)
	for k := range 50 {
		if k%4 == 3 {
			pops(t, other, p)
		} else {
			pushes(t, other, p, -k)
		}
		held(t, s, q)
		held(t, other, p)
	}
}

// wiped: is there the zero value in the ring wherever nothing lies?
func wiped(s *Stack[string]) bool {
	some := 0
	for _, text := range s.things {
		if text != "" {
			some++
		}
	}
	return some == s.Len()
}

func TestWhatHasGoneIsCleared(t *testing.T) {
	for _, room := range []int{1, 2, 5, 32} {
		s, _ := made[string](t, room)
		for k := range 6 * room {
			s.Push("a" + strconv.Itoa(k))
			if !wiped(s) {
				t.Fatalf("P6.1: behind a Push the ring holds %q, with %d on the stack", s.things, s.Len())
			}
			for range k % 4 {
				s.Pop()
				if !wiped(s) {
					t.Fatalf("P6.1: behind a Pop the ring holds %q, with %d on the stack", s.things, s.Len())
				}
			}
		}
	}
}

// tried does, with such a room, a row of Pushes (true) and Pops, one behind the other.
func tried(t *testing.T, room int, row []bool) {
	t.Helper()
	defer func() {
		if t.Failed() {
			t.Logf("room %d; the row, true for Push: %v", room, row)
		}
	}()
	s, q := made[int](t, room)
	for k, push := range row {
		if push {
			pushes(t, s, q, k+1)
		} else {
			pops(t, s, q)
		}
		held(t, s, q)
	}
}

func TestEveryRow(t *testing.T) {
	const length = 11
	for room := 1; room <= 5; room++ {
		for choice := range 1 << length {
			row := make([]bool, length)
			for k := range row {
				row[k] = choice>>k&1 == 1
			}
			tried(t, room, row)
		}
	}
}

// dice are numbers that look like chance and are the same each time.
type dice uint64

func (d *dice) below(n int) int {
	*d = *d*6364136223846793005 + 1442695040888963407
	return int(uint64(*d) >> 33 % uint64(n))
}

func TestLongRows(t *testing.T) {
	d := dice(20261118)
	for room := 1; room <= 32; room++ {
		for _, often := range []int{3, 5, 7} {
			s, q := made[int](t, room)
			for range 600 {
				if d.below(10) < often {
					pushes(t, s, q, d.below(9)-4)
				} else {
					pops(t, s, q)
				}
				held(t, s, q)
			}
		}
	}
}
