package graph

import (
	"fmt"
	"maps"
	"math"
	"slices"
	"testing"

	"ringroad/api"
)

// noPlaces are numbers of no place, though some look like one by their last bits.
var noPlaces = []int{
	math.MinInt, math.MinInt + 1, math.MinInt + 5, math.MinInt32, -1 << 32, -256, -128, -64, -63, -2, -1,
	64, 65, 127, 128, 129, 255, 256, math.MaxInt32, 1 << 32, 1<<32 + 5, math.MaxInt - 63, math.MaxInt - 1, math.MaxInt,
}

// wrongWeights are those that may not be.
var wrongWeights = []int{
	math.MinInt, math.MinInt + 1, -api.None, -api.Far, -api.Most, math.MinInt32, -2, -1, 0,
	api.Far, api.None, api.None + 1, math.MaxInt - 1, math.MaxInt,
}

// rightWeights are some that may be, at the edges and between.
var rightWeights = []int{1, 2, 3, 7, 255, 256, math.MaxInt32, 1 << 32, api.Most / 2, api.Most - 1, api.Most}

// noVertices are numbers of no vertex of n.
func noVertices(n int) []int {
	return []int{
		math.MinInt, math.MinInt + 1, math.MinInt32, -1 << 32, -256, -64, -n, -2, -1,
		n, n + 1, n + 24, n + 64, n + 256, math.MaxInt32, 1 << 32, math.MaxInt - 1, math.MaxInt,
	}
}

// model is a graph as the chapter tells it, in a form of the tests' own.
type model struct {
	n, most int
	arcs    map[int]api.Arc
}

func newModel(n, most int) *model { return &model{n, most, map[int]api.Arc{}} }

func (m *model) copied() *model { return &model{m.n, m.most, maps.Clone(m.arcs)} }

// ids: the numbers of all arcs of which something is so, rising.
func (m *model) ids(so func(api.Arc) bool) []int {
	var out []int
	for id, a := range m.arcs {
		if so(a) {
			out = append(out, id)
		}
	}
	slices.Sort(out)
	return out
}

// best: the one than which no other one is better.
func (m *model) best(tail, head int) (int, int) {
	between := m.ids(func(a api.Arc) bool { return a.Tail == tail && a.Head == head && !a.Closed })
	if len(between) == 0 {
		return api.None, -1
	}
	slices.SortStableFunc(between, func(i, j int) int { return m.arcs[i].Weight - m.arcs[j].Weight })
	return m.arcs[between[0]].Weight, between[0]
}

// deed is a call that may change a graph.
type deed struct {
	kind string
	id   int
	arc  api.Arc // of Insert; of Weigh its weight alone
}

func (d deed) String() string { return fmt.Sprintf("%s(%d, %v)", d.kind, d.id, d.arc) }

// to does it to a graph.
func (d deed) to(g *Graph) api.Code {
	switch d.kind {
	case "Insert":
		return g.Insert(d.id, d.arc)
	case "Delete":
		return g.Delete(d.id)
	case "Close":
		return g.Close(d.id)
	case "Reopen":
		return g.Reopen(d.id)
	}
	return g.Weigh(d.id, d.arc.Weight)
}

// code: what the document says that is answered.
func (d deed) code(m *model) api.Code {
	was, taken := m.arcs[d.id]
	noWeight := d.arc.Weight < 1 || d.arc.Weight > 1<<62
	noVertex := d.arc.Tail < 0 || d.arc.Tail >= m.n || d.arc.Head < 0 || d.arc.Head >= m.n
	switch {
	case d.id < 0, d.id > 63:
		return api.Arg
	case d.kind == "Insert" && (noVertex || noWeight), d.kind == "Weigh" && noWeight:
		return api.Arg
	case d.kind == "Insert" && taken:
		return api.Exists
	case d.kind == "Insert" && len(m.arcs) >= m.most:
		return api.Full
	case d.kind != "Insert" && !taken:
		return api.NotFound
	case d.kind == "Close" && was.Closed, d.kind == "Reopen" && !was.Closed:
		return api.State
	}
	return api.OK
}

// toModel does it to a model, if it is to be done.
func (d deed) toModel(m *model) api.Code {
	if code := d.code(m); code != api.OK {
		return code
	}
	a := m.arcs[d.id]
	switch d.kind {
	case "Insert":
		a = d.arc
	case "Delete":
		delete(m.arcs, d.id)
		return api.OK
	case "Close":
		a.Closed = true
	case "Reopen":
		a.Closed = false
	case "Weigh":
		a.Weight = d.arc.Weight
	}
	m.arcs[d.id] = a
	return api.OK
}

// made: a graph, which must be one.
func made(t *testing.T, n, most int) *Graph {
	t.Helper()
	g, code := New(n, most)
	if g == nil || code != api.OK {
		t.Fatalf("P8.1: New(%d, %d): %v, %d", n, most, g, code)
	}
	return g
}

// open, closed: an arc.
func open(tail, head, weight int) api.Arc {
	return api.Arc{Tail: tail, Head: head, Weight: weight}
}

func closed(tail, head, weight int) api.Arc {
	return api.Arc{Tail: tail, Head: head, Weight: weight, Closed: true}
}

// done: each deed in turn, all of which are to be done.
func done(t *testing.T, g *Graph, m *model, deeds ...deed) {
	t.Helper()
	for _, d := range deeds {
		if got, want := d.to(g), d.toModel(m); got != want || want != api.OK {
			t.Fatalf("P8.1, P8.2: %v: %d, want %d", d, got, want)
		}
	}
}

// same: is all that the graph tells what the model does?
func same(t *testing.T, what string, g *Graph, m *model) {
	t.Helper()
	every := func(api.Arc) bool { return true }
	if got := g.Vertices(); got != m.n {
		t.Fatalf("P8.3: %s: Vertices: %d, want %d", what, got, m.n)
	}
	if got := g.Len(); got != len(m.arcs) {
		t.Fatalf("P8.3: %s: Len: %d, want %d", what, got, len(m.arcs))
	}
	if got, want := g.Ids(), m.ids(every); !slices.Equal(got, want) {
		t.Fatalf("P8.3: %s: Ids: %v, want %v", what, got, want)
	}
	for id := range 64 {
		want, there := m.arcs[id]
		if got, ok := g.Arc(id); got != want || ok != there {
			t.Fatalf("P8.3: %s: Arc(%d): %v, %v, want %v, %v", what, id, got, ok, want, there)
		}
	}
	for v := -1; v <= m.n; v++ {
		if got, want := slices.Collect(g.Out(v)), m.ids(func(a api.Arc) bool { return a.Tail == v }); !slices.Equal(got, want) {
			t.Fatalf("P8.3: %s: Out(%d): %v, want %v", what, v, got, want)
		}
		if got, want := slices.Collect(g.In(v)), m.ids(func(a api.Arc) bool { return a.Head == v }); !slices.Equal(got, want) {
			t.Fatalf("P8.3: %s: In(%d): %v, want %v", what, v, got, want)
		}
	}
	sameBest(t, what, g, m)
}

// sameBest: does Best tell what the model does, of each two vertices and of some that there aren't?
func sameBest(t *testing.T, what string, g *Graph, m *model) {
	t.Helper()
	for tail := -1; tail <= m.n; tail++ {
		for head := -1; head <= m.n; head++ {
			weight, id := g.Best(tail, head)
			if wantWeight, wantID := m.best(tail, head); weight != wantWeight || id != wantID {
				t.Fatalf("P8.3: %s: Best(%d, %d): %d, %d, want %d, %d", what, tail, head, weight, id, wantWeight, wantID)
			}
		}
	}
}

// refused: a deed that isn't done answers its code, and changes nothing.
func refused(t *testing.T, g *Graph, m *model, d deed, want api.Code) {
	t.Helper()
	if got := d.to(g); got != want {
		t.Errorf("P8.1, P8.2: %v: %d, want %d", d, got, want)
	}
	same(t, "refused "+d.String(), g, m)
}

// dice are numbers that look like chance and are the same each time.
type dice uint64

func (d *dice) next() uint64 {
	*d = *d*6364136223846793005 + 1442695040888963407
	return uint64(*d>>32) | uint64(*d<<32)
}

func (d *dice) below(n int) int { return int(d.next() % uint64(n)) }

func (d *dice) one(l []int) int { return l[d.below(len(l))] }

func TestNew(t *testing.T) {
	for n := 1; n <= 24; n++ {
		for most := 1; most <= 64; most++ {
			same(t, "new", made(t, n, most), newModel(n, most))
		}
	}
}

func TestNewWrong(t *testing.T) {
	wrongN := []int{math.MinInt, math.MinInt32, -1 << 32, -24, -1, 0, 25, 26, 48, 64, 256, math.MaxInt32, 1<<32 + 1, math.MaxInt}
	wrongMost := []int{math.MinInt, math.MinInt32, -1 << 32, -64, -1, 0, 65, 66, 128, 256, 257, math.MaxInt32, 1<<32 + 1, math.MaxInt}
	wrong := func(n, most int) {
		t.Helper()
		if g, code := New(n, most); g != nil || code != api.Arg {
			t.Errorf("P8.1: New(%d, %d): %v, %d", n, most, g, code)
		}
	}
	for _, n := range wrongN {
		for _, most := range []int{1, 2, 24, 25, 63, 64} {
			wrong(n, most)
		}
		for _, most := range wrongMost {
			wrong(n, most)
		}
	}
	for _, most := range wrongMost {
		for n := 1; n <= 24; n++ {
			wrong(n, most)
		}
	}
}

func TestExample(t *testing.T) {
	g, m := made(t, 4, 2), newModel(4, 2)
	done(t, g, m, deed{"Insert", 0, open(2, 3, 5)}, deed{"Insert", 1, open(2, 3, 5)})
	if weight, id := g.Best(2, 3); weight != 5 || id != 0 {
		t.Errorf("P8.3: Best(2, 3): %d, %d", weight, id)
	}
	done(t, g, m, deed{kind: "Close"})
	if weight, id := g.Best(2, 3); weight != 5 || id != 1 {
		t.Errorf("P8.3: 0 is closed: Best(2, 3): %d, %d", weight, id)
	}
}

// Arcs one behind the other, with what there is behind each.
func TestOneBehindTheOther(t *testing.T) {
	g := made(t, 3, 3)
	for _, c := range []struct {
		deed deed
		code api.Code
		ids  []int
		out0 []int
		in1  []int
		best [2]int // from 0 to 1
		arc9 api.Arc
	}{
		{deed{"Insert", 9, closed(0, 1, 4)}, api.OK, []int{9}, []int{9}, []int{9}, [2]int{api.None, -1}, closed(0, 1, 4)},
		{deed{"Insert", 9, open(0, 1, 4)}, api.Exists, []int{9}, []int{9}, []int{9}, [2]int{api.None, -1}, closed(0, 1, 4)},
		{deed{kind: "Close", id: 9}, api.State, []int{9}, []int{9}, []int{9}, [2]int{api.None, -1}, closed(0, 1, 4)},
		{deed{"Weigh", 9, open(0, 0, 8)}, api.OK, []int{9}, []int{9}, []int{9}, [2]int{api.None, -1}, closed(0, 1, 8)},
		{deed{kind: "Reopen", id: 9}, api.OK, []int{9}, []int{9}, []int{9}, [2]int{8, 9}, open(0, 1, 8)},
		{deed{kind: "Reopen", id: 9}, api.State, []int{9}, []int{9}, []int{9}, [2]int{8, 9}, open(0, 1, 8)},
		{deed{"Insert", 3, open(0, 1, 9)}, api.OK, []int{3, 9}, []int{3, 9}, []int{3, 9}, [2]int{8, 9}, open(0, 1, 8)},
		{deed{"Weigh", 9, open(0, 0, 9)}, api.OK, []int{3, 9}, []int{3, 9}, []int{3, 9}, [2]int{9, 3}, open(0, 1, 9)},
		{deed{"Weigh", 9, open(0, 0, 9)}, api.OK, []int{3, 9}, []int{3, 9}, []int{3, 9}, [2]int{9, 3}, open(0, 1, 9)},
		{deed{"Insert", 63, open(1, 1, 1)}, api.OK, []int{3, 9, 63}, []int{3, 9}, []int{3, 9, 63}, [2]int{9, 3}, open(0, 1, 9)},
		{deed{"Insert", 62, open(1, 1, 1)}, api.Full, []int{3, 9, 63}, []int{3, 9}, []int{3, 9, 63}, [2]int{9, 3}, open(0, 1, 9)},
		{deed{kind: "Close", id: 3}, api.OK, []int{3, 9, 63}, []int{3, 9}, []int{3, 9, 63}, [2]int{9, 9}, open(0, 1, 9)},
		{deed{kind: "Delete", id: 9}, api.OK, []int{3, 63}, []int{3}, []int{3, 63}, [2]int{api.None, -1}, api.Arc{}},
		{deed{kind: "Delete", id: 9}, api.NotFound, []int{3, 63}, []int{3}, []int{3, 63}, [2]int{api.None, -1}, api.Arc{}},
		{deed{"Insert", 9, open(2, 0, 6)}, api.OK, []int{3, 9, 63}, []int{3}, []int{3, 63}, [2]int{api.None, -1}, open(2, 0, 6)},
	} {
		if code := c.deed.to(g); code != c.code {
			t.Errorf("P8.1, P8.2: %v: %d, want %d", c.deed, code, c.code)
		}
		if ids := g.Ids(); !slices.Equal(ids, c.ids) || g.Len() != len(c.ids) {
			t.Errorf("P8.3: %v: Ids: %v, Len: %d, want %v", c.deed, ids, g.Len(), c.ids)
		}
		if out, in := slices.Collect(g.Out(0)), slices.Collect(g.In(1)); !slices.Equal(out, c.out0) || !slices.Equal(in, c.in1) {
			t.Errorf("P8.3: %v: Out(0): %v, want %v; In(1): %v, want %v", c.deed, out, c.out0, in, c.in1)
		}
		if weight, id := g.Best(0, 1); weight != c.best[0] || id != c.best[1] {
			t.Errorf("P8.3: %v: Best(0, 1): %d, %d, want %v", c.deed, weight, id, c.best)
		}
		if a, ok := g.Arc(9); a != c.arc9 || ok != (c.arc9 != api.Arc{}) {
			t.Errorf("P8.3: %v: Arc(9): %v, %v, want %v", c.deed, a, ok, c.arc9)
		}
	}
}

// Each place, each vertex at both ends, each right weight, open and closed.
func TestInsertEach(t *testing.T) {
	for _, n := range []int{1, 2, 5, 24} {
		for id := range 64 {
			for _, weight := range rightWeights {
				for _, shut := range []bool{false, true} {
					g, m := made(t, n, 1), newModel(n, 1)
					a := api.Arc{Tail: id % n, Head: (id / 2) % n, Weight: weight, Closed: shut}
					done(t, g, m, deed{"Insert", id, a})
					if got, ok := g.Arc(id); got != a || !ok {
						t.Fatalf("P8.1: Arc(%d): %v, %v, want %v", id, got, ok, a)
					}
				}
			}
		}
		for tail := range n {
			for head := range n {
				g, m := made(t, n, 1), newModel(n, 1)
				done(t, g, m, deed{"Insert", 17, open(tail, head, 3)})
				same(t, "one arc", g, m)
			}
		}
	}
}

func TestInsertWrong(t *testing.T) {
	for _, n := range []int{1, 3, 24} {
		g, m := made(t, n, 2), newModel(n, 2)
		last := n - 1
		wrong := func(want api.Code, id int, a api.Arc) {
			t.Helper()
			refused(t, g, m, deed{"Insert", id, a}, want)
		}
		// Arg, whether no arc is there, the place is taken, or as many are as may be.
		all := func() {
			t.Helper()
			for _, id := range noPlaces {
				wrong(api.Arg, id, open(0, last, 5))
			}
			for _, id := range []int{0, 40, 63} {
				for _, v := range noVertices(n) {
					wrong(api.Arg, id, open(v, 0, 5))
					wrong(api.Arg, id, open(0, v, 5))
					wrong(api.Arg, id, open(v, v, 5))
				}
				for _, weight := range wrongWeights {
					wrong(api.Arg, id, open(0, last, weight))
					wrong(api.Arg, id, closed(0, last, weight))
				}
			}
			wrong(api.Arg, 64, open(-1, n, 0))
		}
		all()
		done(t, g, m, deed{"Insert", 0, open(0, last, 5)})
		all()
		wrong(api.Exists, 0, open(0, last, 5))
		wrong(api.Exists, 0, closed(last, 0, 6))
		done(t, g, m, deed{"Insert", 63, closed(last, 0, 5)})
		all()
		wrong(api.Full, 40, open(0, last, 5))
		wrong(api.Full, 1, closed(0, 0, 1))
		wrong(api.Exists, 0, open(0, last, 5))
		wrong(api.Exists, 63, open(0, 0, 1))
	}
}

// As many arcs as may be, and one more, of each number that may be.
func TestFull(t *testing.T) {
	for most := 1; most <= 64; most++ {
		g, m := made(t, 2, most), newModel(2, most)
		for i := range most {
			// 37 and 64 have no divisor in common: each place comes once, in no order.
			done(t, g, m, deed{"Insert", i * 37 % 64, open(i%2, i/2%2, i+1)})
		}
		same(t, "as many as may be", g, m)
		for id := range 64 {
			want := api.Full
			if _, taken := m.arcs[id]; taken {
				want = api.Exists
			}
			if got := g.Insert(id, open(0, 1, 1)); got != want {
				t.Fatalf("P8.1: most %d: Insert(%d): %d, want %d", most, id, got, want)
			}
		}
		same(t, "one more", g, m)
		for _, kind := range []string{"Close", "Weigh", "Reopen"} {
			done(t, g, m, deed{kind, 0, open(0, 0, 9)})
			if got := g.Insert(most*37%64, open(0, 1, 1)); got == api.OK {
				t.Fatalf("P8.1: most %d, behind %s: another one", most, kind)
			}
		}
		done(t, g, m, deed{kind: "Delete"}, deed{"Insert", 0, open(1, 0, 2)})
		same(t, "a place is free again", g, m)
	}
}

// Behind Delete there is room at another place, too, and nothing of the arc is left.
func TestDelete(t *testing.T) {
	for _, shut := range []bool{false, true} {
		g, m := made(t, 2, 1), newModel(2, 1)
		a := api.Arc{Tail: 1, Head: 0, Weight: 7, Closed: shut}
		for id := range 64 {
			done(t, g, m, deed{"Insert", id, a})
			refused(t, g, m, deed{"Insert", (id + 1) % 64, a}, api.Full)
			done(t, g, m, deed{kind: "Delete", id: id})
			same(t, "deleted", g, m)
			for _, kind := range []string{"Delete", "Close", "Reopen", "Weigh"} {
				refused(t, g, m, deed{kind, id, open(0, 0, 7)}, api.NotFound)
			}
		}
	}
}

// One arc is changed, the others stay.
func TestChangeOfOne(t *testing.T) {
	g, m := made(t, 4, 64), newModel(4, 64)
	for id := range 64 {
		done(t, g, m, deed{"Insert", id, api.Arc{Tail: id % 4, Head: id / 4 % 4, Weight: 10 + id/16, Closed: id%3 == 0}})
	}
	for id := range 64 {
		if m.arcs[id].Closed {
			refused(t, g, m, deed{kind: "Close", id: id}, api.State)
			done(t, g, m, deed{kind: "Reopen", id: id})
			refused(t, g, m, deed{kind: "Reopen", id: id}, api.State)
		} else {
			refused(t, g, m, deed{kind: "Reopen", id: id}, api.State)
			done(t, g, m, deed{kind: "Close", id: id})
			refused(t, g, m, deed{kind: "Close", id: id}, api.State)
		}
		same(t, "turned", g, m)
		for _, weight := range rightWeights {
			done(t, g, m, deed{"Weigh", id, open(0, 0, weight)}, deed{"Weigh", id, open(0, 0, weight)})
			same(t, "weighed", g, m)
		}
	}
}

func TestChangeWrong(t *testing.T) {
	for _, most := range []int{2, 64} {
		g, m := made(t, 3, most), newModel(3, most)
		for _, id := range noPlaces {
			for _, kind := range []string{"Delete", "Close", "Reopen", "Weigh"} {
				refused(t, g, m, deed{kind, id, open(0, 0, 1)}, api.Arg)
			}
		}
		done(t, g, m, deed{"Insert", 0, open(0, 1, 2)}, deed{"Insert", 63, closed(1, 2, 2)})
		for _, id := range noPlaces {
			for _, kind := range []string{"Delete", "Close", "Reopen", "Weigh"} {
				refused(t, g, m, deed{kind, id, open(0, 0, 1)}, api.Arg)
			}
			refused(t, g, m, deed{"Weigh", id, open(0, 0, 0)}, api.Arg)
		}
		for id := 1; id < 63; id++ {
			for _, kind := range []string{"Delete", "Close", "Reopen", "Weigh"} {
				refused(t, g, m, deed{kind, id, open(0, 0, 1)}, api.NotFound)
			}
		}
		for _, weight := range wrongWeights {
			for _, id := range []int{0, 1, 31, 62, 63} {
				refused(t, g, m, deed{"Weigh", id, open(0, 0, weight)}, api.Arg)
			}
		}
		refused(t, g, m, deed{kind: "Close", id: 63}, api.State)
		refused(t, g, m, deed{kind: "Reopen"}, api.State)
	}
}

func TestArcOfNoPlace(t *testing.T) {
	g, m := made(t, 2, 64), newModel(2, 64)
	none := func() {
		t.Helper()
		for _, id := range noPlaces {
			if a, ok := g.Arc(id); a != (api.Arc{}) || ok {
				t.Errorf("P8.3: Arc(%d): %v, %v", id, a, ok)
			}
		}
	}
	none()
	for id := range 64 {
		done(t, g, m, deed{"Insert", id, closed(1, 1, id+1)})
	}
	none()
}

func TestBest(t *testing.T) {
	for i, c := range []struct {
		arcs       map[int]api.Arc
		weight, id int // from 1 to 2
	}{
		{nil, api.None, -1},
		{map[int]api.Arc{5: open(1, 2, 9)}, 9, 5},
		{map[int]api.Arc{0: open(1, 2, api.Most)}, api.Most, 0},
		{map[int]api.Arc{63: open(1, 2, 1)}, 1, 63},
		{map[int]api.Arc{5: closed(1, 2, 9)}, api.None, -1},
		{map[int]api.Arc{5: closed(1, 2, 9), 6: closed(1, 2, 1), 63: closed(1, 2, 1)}, api.None, -1},
		{map[int]api.Arc{5: open(2, 1, 9), 6: open(1, 1, 1), 7: open(2, 2, 1), 8: open(0, 2, 1), 9: open(1, 0, 1)}, api.None, -1},
		{map[int]api.Arc{5: open(1, 2, 9), 6: open(2, 1, 1), 7: open(1, 1, 1), 8: open(2, 2, 1), 4: open(0, 2, 1), 3: open(1, 0, 1)}, 9, 5},
		{map[int]api.Arc{5: open(1, 2, 9), 6: open(1, 2, 9), 7: open(1, 2, 9)}, 9, 5},
		{map[int]api.Arc{5: open(1, 2, 10), 6: open(1, 2, 9), 7: open(1, 2, 9)}, 9, 6},
		{map[int]api.Arc{0: open(1, 2, 10), 62: open(1, 2, 9), 63: open(1, 2, 8)}, 8, 63},
		{map[int]api.Arc{0: open(1, 2, 8), 62: open(1, 2, 9), 63: open(1, 2, 10)}, 8, 0},
		{map[int]api.Arc{0: closed(1, 2, 8), 62: open(1, 2, 9), 63: open(1, 2, 9)}, 9, 62},
		{map[int]api.Arc{0: closed(1, 2, 1), 62: open(1, 2, api.Most), 63: open(1, 2, api.Most)}, api.Most, 62},
		{map[int]api.Arc{0: open(1, 2, api.Most), 1: open(1, 2, api.Most-1), 2: closed(1, 2, 1)}, api.Most - 1, 1},
	} {
		g, m := made(t, 3, 64), newModel(3, 64)
		for id, a := range c.arcs {
			done(t, g, m, deed{"Insert", id, a})
		}
		if weight, id := g.Best(1, 2); weight != c.weight || id != c.id {
			t.Errorf("P8.3: %d: Best(1, 2): %d, %d, want %d, %d", i, weight, id, c.weight, c.id)
		}
		same(t, fmt.Sprint("arcs ", i), g, m)
	}
}

// An arc from a vertex to itself is told by Best, too, and both goes out and comes in.
func TestSelf(t *testing.T) {
	for _, n := range []int{1, 3, 24} {
		for v := range n {
			g, m := made(t, n, 3), newModel(n, 3)
			done(t, g, m, deed{"Insert", 8, open(v, v, 5)}, deed{"Insert", 4, open(v, v, 5)}, deed{"Insert", 2, closed(v, v, 1)})
			if weight, id := g.Best(v, v); weight != 5 || id != 4 {
				t.Errorf("P8.3: Best(%d, %d): %d, %d", v, v, weight, id)
			}
			if out, in := slices.Collect(g.Out(v)), slices.Collect(g.In(v)); !slices.Equal(out, []int{2, 4, 8}) || !slices.Equal(in, []int{2, 4, 8}) {
				t.Errorf("P8.3: Out(%d): %v, In(%d): %v", v, out, v, in)
			}
			same(t, "to itself", g, m)
		}
	}
}

func TestNoVertex(t *testing.T) {
	for _, n := range []int{1, 2, 24} {
		g, m := made(t, n, 64), newModel(n, 64)
		for id := range 64 {
			done(t, g, m, deed{"Insert", id, open(id%n, id/n%n, id+1)})
		}
		for _, v := range noVertices(n) {
			if out, in := slices.Collect(g.Out(v)), slices.Collect(g.In(v)); len(out) != 0 || len(in) != 0 {
				t.Errorf("P8.3: n %d: Out(%d): %v, In: %v", n, v, out, in)
			}
			for _, pair := range [][2]int{{v, 0}, {0, v}, {v, v}} {
				if weight, id := g.Best(pair[0], pair[1]); weight != api.None || id != -1 {
					t.Errorf("P8.3: n %d: Best(%v): %d, %d", n, pair, weight, id)
				}
			}
		}
	}
}

// Out and In tell no more than is asked for, and the same when they are gone through again.
func TestAsLongAsAsked(t *testing.T) {
	g, m := made(t, 3, 64), newModel(3, 64)
	for id := range 64 {
		done(t, g, m, deed{"Insert", id, api.Arc{Tail: id % 2, Head: id / 2 % 2, Weight: 1, Closed: id%5 == 0}})
	}
	for v := range 3 {
		for name, c := range map[string]struct {
			seq  func(func(int) bool)
			want []int
		}{
			"Out": {g.Out(v), m.ids(func(a api.Arc) bool { return a.Tail == v })},
			"In":  {g.In(v), m.ids(func(a api.Arc) bool { return a.Head == v })},
		} {
			for asked := 1; asked <= len(c.want)+1; asked++ {
				var got []int
				c.seq(func(id int) bool {
					got = append(got, id)
					return len(got) < asked
				})
				if want := c.want[:min(asked, len(c.want))]; !slices.Equal(got, want) {
					t.Fatalf("P8.3: %s(%d), %d asked for: %v, want %v", name, v, asked, got, want)
				}
			}
			if got := slices.Collect(c.seq); !slices.Equal(got, c.want) {
				t.Errorf("P8.3: %s(%d) again: %v, want %v", name, v, got, c.want)
			}
		}
	}
	same(t, "gone through", g, m)
}

// One may be gone through inside of another one.
func TestNested(t *testing.T) {
	g, m := made(t, 2, 4), newModel(2, 4)
	done(t, g, m, deed{"Insert", 1, open(0, 1, 1)}, deed{"Insert", 2, open(0, 1, 1)}, deed{"Insert", 3, open(1, 0, 1)})
	var got [][2]int
	out := g.Out(0)
	for i := range out {
		for j := range out {
			for range g.In(0) {
				got = append(got, [2]int{i, j})
			}
		}
	}
	if want := [][2]int{{1, 1}, {1, 2}, {2, 1}, {2, 2}}; !slices.Equal(got, want) {
		t.Errorf("P8.3: %v, want %v", got, want)
	}
}

// What is answered may be written over, and nothing of the graph changes.
func TestAnswersAreOwn(t *testing.T) {
	g, m := made(t, 2, 3), newModel(2, 3)
	done(t, g, m, deed{"Insert", 7, open(0, 1, 1)}, deed{"Insert", 9, closed(1, 1, 1)})
	ids := g.Ids()
	ids[0], ids[1] = 50, 51
	_ = append(ids[:0], 40, 41)
	a, _ := g.Arc(7)
	a.Weight, a.Closed, a.Tail = 99, true, 1
	same(t, "written over", g, m)
}

// A copy, and what it was made of, each go on by themselves.
func TestCopy(t *testing.T) {
	for _, most := range []int{3, 64} {
		for _, d := range []deed{
			{"Insert", 40, open(2, 2, 3)}, {kind: "Delete", id: 5}, {kind: "Close", id: 5}, {kind: "Reopen", id: 6}, {"Weigh", 5, open(0, 0, 77)},
		} {
			g, m := made(t, 3, most), newModel(3, most)
			done(t, g, m, deed{"Insert", 5, open(0, 1, 4)}, deed{"Insert", 6, closed(1, 2, 4)})
			other, otherModel := g.Copy(), m.copied()
			if other == g {
				t.Fatal("P8.3: Copy is the graph itself")
			}
			same(t, "a copy", other, otherModel)
			done(t, g, m, d)
			same(t, "done to the graph", g, m)
			same(t, "the copy", other, otherModel)
			third, thirdModel := other.Copy(), otherModel.copied()
			done(t, third, thirdModel, d)
			same(t, "done to a copy of the copy", third, thirdModel)
			same(t, "the copy that it was made of", other, otherModel)
			done(t, other, otherModel, d)
			same(t, "done to the copy", other, otherModel)
			same(t, "the graph", g, m)
		}
	}
}

// A copy has as many vertices, and room for as many arcs.
func TestCopyHasLimits(t *testing.T) {
	for n := 1; n <= 24; n++ {
		for _, most := range []int{1, 2, 63, 64} {
			g := made(t, n, most)
			other, m := g.Copy(), newModel(n, most)
			refused(t, other, m, deed{"Insert", 0, open(n, 0, 1)}, api.Arg)
			for id := range most {
				done(t, other, m, deed{"Insert", id, open(n-1, 0, 1)})
			}
			if got := other.Insert(63, open(0, 0, 1)); got != api.Full && most < 64 {
				t.Errorf("P8.1: a copy with room for %d: another one: %d", most, got)
			}
			same(t, "a full copy", other, m)
			same(t, "what it was made of", g, newModel(n, most))
		}
	}
}

// Each arc is among those that go out of its Tail and come into its Head, once, and among no others.
func TestEnds(t *testing.T) {
	d := dice(8)
	for _, n := range []int{1, 2, 7, 24} {
		g, m := made(t, n, 64), newModel(n, 64)
		for range 400 {
			d.some(n).to(g)
		}
		if g.Len() == 0 {
			t.Fatal("no arc came")
		}
		for id := range 64 {
			a, there := g.Arc(id)
			for v := range m.n {
				out, in := count(g.Out(v), id), count(g.In(v), id)
				if want := there && a.Tail == v; (out == 1) != want || out > 1 {
					t.Errorf("P8.4: arc %d, %v: %d times in Out(%d)", id, a, out, v)
				}
				if want := there && a.Head == v; (in == 1) != want || in > 1 {
					t.Errorf("P8.4: arc %d, %v: %d times in In(%d)", id, a, in, v)
				}
			}
		}
	}
}

// count: how often a number comes.
func count(seq func(func(int) bool), id int) int {
	times := 0
	for x := range seq {
		if x == id {
			times++
		}
	}
	return times
}

// some: a deed that looks like chance, right ones and wrong ones.
func (d *dice) some(n int) deed {
	out := deed{kind: []string{"Insert", "Insert", "Delete", "Close", "Reopen", "Weigh"}[d.below(6)]}
	// Few places, so that what is done meets what was done.
	out.id = d.one([]int{0, 1, 2, 3, 31, 32, 62, 63})
	out.arc = api.Arc{Tail: d.below(n), Head: d.below(n), Weight: d.one(rightWeights), Closed: d.below(3) == 0}
	switch d.below(12) {
	case 0:
		out.id = d.one(noPlaces)
	case 1:
		out.arc.Tail = d.one(noVertices(n))
	case 2:
		out.arc.Head = d.one(noVertices(n))
	case 3:
		out.arc.Weight = d.one(wrongWeights)
	}
	return out
}

// Long runs, held step by step against the model, and each code of each call met on the way.
func TestRuns(t *testing.T) {
	met := map[string]int{}
	for _, c := range []struct{ n, most, steps int }{
		{1, 1, 3000}, {1, 64, 3000}, {2, 1, 3000}, {2, 3, 5000}, {2, 8, 5000}, {3, 5, 5000}, {3, 64, 3000}, {24, 1, 400}, {24, 6, 400}, {24, 64, 800},
	} {
		g, m := made(t, c.n, c.most), newModel(c.n, c.most)
		d := dice(100*c.n + c.most)
		for range c.steps {
			next := d.some(c.n)
			got, want := next.to(g), next.toModel(m)
			if got != want {
				t.Fatalf("P8.1, P8.2: n %d, most %d: %v: %d, want %d", c.n, c.most, next, got, want)
			}
			met[fmt.Sprint(next.kind, got)]++
			same(t, next.String(), g, m)
			if d.below(50) == 0 {
				// The one that is left behind goes on, too, and mustn't be seen in the copy.
				left := g
				g = g.Copy()
				for range 5 {
					d.some(c.n).to(left)
				}
				same(t, "a copy", g, m)
			}
		}
	}
	for _, code := range []string{
		"Insert0", "Insert1", "Insert2", "Insert4", "Delete0", "Delete1", "Delete3",
		"Close0", "Close1", "Close3", "Close5", "Reopen0", "Reopen1", "Reopen3", "Reopen5", "Weigh0", "Weigh1", "Weigh3",
	} {
		if met[code] < 50 {
			t.Errorf("%s came %d times alone", code, met[code])
		}
	}
	if len(met) != 18 {
		t.Errorf("P8.1, P8.2: codes that may not be: %v", met)
	}
}

// All runs of three deeds on two places.
func TestAllShortRuns(t *testing.T) {
	var deeds []deed
	for _, id := range []int{0, 63} {
		for _, kind := range []string{"Delete", "Close", "Reopen"} {
			deeds = append(deeds, deed{kind: kind, id: id})
		}
		deeds = append(deeds, deed{"Weigh", id, open(0, 0, 1)}, deed{"Weigh", id, open(0, 0, 2)}, deed{"Weigh", id, open(0, 0, 0)})
		deeds = append(deeds, deed{"Insert", id, open(0, 1, 2)}, deed{"Insert", id, closed(1, 0, 1)}, deed{"Insert", id, open(1, 1, 1)})
	}
	var run func(g *Graph, m *model, left int)
	run = func(g *Graph, m *model, left int) {
		for _, d := range deeds {
			next, nextModel := g.Copy(), m.copied()
			if got, want := d.to(next), d.toModel(nextModel); got != want {
				t.Fatalf("P8.1, P8.2: of %v: %v: %d, want %d", m.arcs, d, got, want)
			}
			same(t, d.String(), next, nextModel)
			if left > 1 {
				run(next, nextModel, left-1)
			}
		}
	}
	for most := 1; most <= 2; most++ {
		run(made(t, 2, most), newModel(2, most), 3)
	}
}
