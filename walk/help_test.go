package walk

import (
	"math"
	"reflect"
	"slices"
	"testing"

	"tilth/api"
	"tilth/core"
	"tilth/heap"
	"tilth/obj"
)

// far is numbers at the ends of int, and those around what a small heap has.
var far = []int{math.MinInt, math.MinInt + 1, math.MinInt32, -77, -1, 144, 145, 146, 9999, api.MaxWords, api.MaxWords + 1, math.MaxInt32, math.MaxInt - 1, math.MaxInt}

// plain is a small heap: halves from 1 and 41 on, four pages from 81 on; what is moved twice becomes old. No cycle
// begins of itself, and no work is done, till its half is full.
func plain() api.Config {
	return api.Config{Handles: 6, Nursery: 40, Pages: 4, Page: 16, Card: 8, Buffer: 1, Stack: 2, Tenure: 2, Largest: 6, MinorAt: 40}
}

func fresh(t *testing.T, c api.Config) *heap.Heap {
	t.Helper()
	h, e := heap.New(c)
	if e != api.OK {
		t.Fatalf("New(%+v): %d", c, e)
	}
	return h
}

// does: an entry that is answered just so.
func does(t *testing.T, h *heap.Heap, x api.Step, want api.Answer) {
	t.Helper()
	if got := h.Do(x); got != want {
		t.Fatalf("%+v: %+v, not %+v", x, got, want)
	}
}

// makes: a new object for a handle; where it is.
func makes(t *testing.T, h *heap.Heap, a, b, c int) int {
	t.Helper()
	does(t, h, api.Step{Kind: api.StepMake, A: a, B: b, C: c}, api.Answer{})
	return holds(t, h, a)
}

// sets: a reference of what a handle holds is what another one holds.
func sets(t *testing.T, h *heap.Heap, a, b, c int) {
	t.Helper()
	does(t, h, api.Step{Kind: api.StepSet, A: a, B: b, C: c}, api.Answer{})
}

// writes: a scalar of what a handle holds.
func writes(t *testing.T, h *heap.Heap, a, b int, w uint64) {
	t.Helper()
	does(t, h, api.Step{Kind: api.StepWrite, A: a, B: b, V: w}, api.Answer{})
}

// clears: these handles hold nothing.
func clears(t *testing.T, h *heap.Heap, handles ...int) {
	t.Helper()
	for _, a := range handles {
		does(t, h, api.Step{Kind: api.StepClear, A: a}, api.Answer{})
	}
}

// holds: what a handle holds.
func holds(t *testing.T, h *heap.Heap, a int) int {
	t.Helper()
	at, e := h.Core().Table.Get(a)
	is(t, "the handle's error", e, api.OK)
	return at
}

// puts: a handle of a core holds a place, whatever stands there.
func puts(t *testing.T, c *core.Core, h, at int) {
	t.Helper()
	is(t, "Set", c.Table.Set(h, at), api.OK)
}

// stores: a word of a core's arena is w, whatever it was.
func stores(t *testing.T, c *core.Core, at int, w uint64) {
	t.Helper()
	is(t, "Store", c.Arena.Store(at, w), api.OK)
}

// forces, idles: a cycle begins; it does so much work.
func forces(t *testing.T, h *heap.Heap, a int) {
	t.Helper()
	does(t, h, api.Step{Kind: api.StepForce, A: a}, api.Answer{Yes: true})
}

func idles(t *testing.T, h *heap.Heap, a, work int) {
	t.Helper()
	is(t, "the error", h.Do(api.Step{Kind: api.StepIdle, A: a, B: work}).E, api.OK)
}

// ages: so many whole minor cycles.
func ages(t *testing.T, h *heap.Heap, times int) {
	t.Helper()
	for range times {
		forces(t, h, 0)
		idles(t, h, 0, api.MaxWords)
	}
}

// is: both are the same.
func is[T comparable](t *testing.T, what string, got, want T) {
	t.Helper()
	if got != want {
		t.Fatalf("%s: %v, not %v", what, got, want)
	}
}

// lists: the list has these.
func lists[T comparable](t *testing.T, what string, got []T, want ...T) {
	t.Helper()
	if !slices.Equal(got, want) {
		t.Fatalf("%s: %v, not %v", what, got, want)
	}
}

// alike: both are the same.
func alike(t *testing.T, what string, got, want any) {
	t.Helper()
	if !reflect.DeepEqual(got, want) {
		t.Fatalf("%s: %+v, not %+v", what, got, want)
	}
}

// picture is all that is told of a core; nil and empty lists are the same in it.
type picture struct {
	Nodes   []api.Node
	Handles []int
	Live    []int
	Words   [2]int
}

func see(c *core.Core) picture {
	nodes, handles := Nodes(c)
	young, old := Words(c)
	return picture{some(nodes...), append([]int{}, handles...), append([]int{}, Live(c)...), [2]int{young, old}}
}

// some: these nodes, without nil lists.
func some(nodes ...api.Node) []api.Node {
	list := []api.Node{}
	for _, x := range nodes {
		list = append(list, node(x.Ptrs, x.Scalars...))
	}
	return list
}

// node is one of lists that are not nil.
func node(ptrs []int, scalars ...uint64) api.Node {
	return api.Node{Ptrs: append([]int{}, ptrs...), Scalars: append([]uint64{}, scalars...)}
}

// shows: the core has these nodes, and its handles hold those of these numbers.
func shows(t *testing.T, c *core.Core, handles []int, nodes ...api.Node) {
	t.Helper()
	p := see(c)
	lists(t, "handles", p.Handles, handles...)
	alike(t, "nodes", p.Nodes, some(nodes...))
	is(t, "how many", len(p.Live), len(nodes))
}

// stands: all that handles come to are at these places, and have so many words.
func stands(t *testing.T, c *core.Core, young, old int, places ...int) {
	t.Helper()
	p := see(c)
	lists(t, "places", p.Live, places...)
	is(t, "words", p.Words, [2]int{young, old})
}

// words: those of the arena.
func words(c *core.Core) []uint64 {
	var list []uint64
	for at := range c.Arena.Len() {
		w, _ := c.Arena.Load(at)
		list = append(list, w)
	}
	return list
}

// inside is what is to be seen of a core's parts, but for how often words were asked for.
type inside struct {
	Rest    core.Core
	Words   []uint64
	Halves  [4]int
	Starts  []int
	Pages   [3]int
	Pending bool
	Rem     [2]int
	Grey    []int
	Lost    bool
	Table   []int
}

func within(c *core.Core) inside {
	x := inside{Rest: *c, Words: words(c), Starts: c.Old.Starts(0, c.Arena.Len()), Rem: [2]int{c.Rem.Left(), c.Rem.Len()}, Grey: c.Grey.All(), Lost: c.Grey.Lost(), Table: c.Table.All()}
	x.Rest.Arena, x.Rest.Young, x.Rest.Old, x.Rest.Rem, x.Rest.Grey, x.Rest.Table = nil, nil, nil, nil, nil, nil
	x.Rest.Row = slices.Clone(c.Row)
	now, other := c.Young.Begin()
	x.Halves = [4]int{now, other, c.Young.Used(), c.Young.Left()}
	page, ok := c.Old.Pending()
	x.Pages, x.Pending = [3]int{c.Old.Free(), c.Old.Used(), page}, ok
	return x
}

// still: all calls leave a core as it is, and tell the same again.
func still(t *testing.T, c *core.Core) {
	t.Helper()
	ahead, told := within(c), see(c)
	alike(t, "what is told again", see(c), told)
	alike(t, "the core", within(c), ahead)
}

// headOf: the head of the object at a place.
func headOf(t *testing.T, c *core.Core, at int) api.Head {
	t.Helper()
	h, e := obj.Head(c.Arena, at)
	is(t, "a head's error", e, api.OK)
	return h
}
