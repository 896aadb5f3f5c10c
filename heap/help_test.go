package heap

import (
	"math"
	"reflect"
	"slices"
	"testing"

	"tilth/api"
	"tilth/core"
)

// far is numbers at the ends of int, and those that no handle, field or size has.
var far = []int{math.MinInt, math.MinInt + 1, math.MinInt32, -1, 6, 7, 64, 65, api.MaxWords, api.MaxWords + 1, math.MaxInt32, math.MaxInt - 1, math.MaxInt}

// all is these, and all that a small heap has.
var all = append([]int{0, 1, 2, 3, 4, 5}, far...)

// plain is a small heap: halves from 1 and 41 on, four pages from 81 on; what is moved twice becomes old.
func plain() api.Config {
	return api.Config{Handles: 6, Nursery: 40, Pages: 4, Page: 16, Card: 8, Buffer: 1, Stack: 2, Tenure: 2, Largest: 6, Minor: 3, Major: 3, MinorAt: 20, MajorAt: 1}
}

// lazy is a plain one in which no cycle begins of itself, and no work is done, till its half is full.
func lazy() api.Config {
	x := plain()
	x.Minor, x.Major, x.MinorAt, x.MajorAt = 0, 0, x.Nursery, 0
	return x
}

func fresh(t *testing.T, x api.Config) *Heap {
	t.Helper()
	h, e := New(x)
	if e != api.OK || h == nil {
		t.Fatalf("New(%+v): %v, %d", x, h, e)
	}
	return h
}

// same: both are the same.
func same[T comparable](t *testing.T, what string, got, want T) {
	t.Helper()
	if got != want {
		t.Fatalf("%s: %v, not %v", what, got, want)
	}
}

// lists: the list has these.
func lists(t *testing.T, what string, got []int, want ...int) {
	t.Helper()
	if !slices.Equal(got, want) {
		t.Fatalf("%s: %v, not %v", what, got, want)
	}
}

// does: an entry that is answered just so.
func does(t *testing.T, h *Heap, x api.Step, want api.Answer) {
	t.Helper()
	if got := h.Do(x); got != want {
		t.Fatalf("%+v: %+v, not %+v", x, got, want)
	}
}

// makes: a new object for a handle; where it is.
func makes(t *testing.T, h *Heap, a, b, c int) int {
	t.Helper()
	does(t, h, api.Step{Kind: api.StepMake, A: a, B: b, C: c}, api.Answer{})
	return holds(t, h, a)
}

// sets: a reference of what a handle holds is what another one holds.
func sets(t *testing.T, h *Heap, a, b, c int) {
	t.Helper()
	does(t, h, api.Step{Kind: api.StepSet, A: a, B: b, C: c}, api.Answer{})
}

// clears: these handles hold nothing.
func clears(t *testing.T, h *Heap, handles ...int) {
	t.Helper()
	for _, a := range handles {
		does(t, h, api.Step{Kind: api.StepClear, A: a}, api.Answer{})
	}
}

// holds: what a handle holds.
func holds(t *testing.T, h *Heap, a int) int {
	t.Helper()
	at, e := h.Core().Table.Get(a)
	same(t, "the handle's error", e, api.OK)
	return at
}

// forces, idles: a cycle begins; it goes on to its end, with nothing else meanwhile.
func forces(t *testing.T, h *Heap, a int) {
	t.Helper()
	does(t, h, api.Step{Kind: api.StepForce, A: a}, api.Answer{Yes: true})
}

func idles(t *testing.T, h *Heap, a int) {
	t.Helper()
	same(t, "the error", h.Do(api.Step{Kind: api.StepIdle, A: a, B: math.MaxInt}).E, api.OK)
	if a == 0 {
		same(t, "Moving", h.Core().Moving, false)
		return
	}
	same(t, "Phase", h.Core().Phase, api.Idle)
}

// ages: so many whole minor cycles.
func ages(t *testing.T, h *Heap, times int) {
	t.Helper()
	for range times {
		forces(t, h, 0)
		idles(t, h, 0)
	}
}

// picture is all that is to be seen of a core.
type picture struct {
	Rest    core.Core
	Words   []uint64
	Count   int
	Halves  [5]int
	Starts  []int
	Pages   [3]int
	Pending bool
	Rem     [2]int
	Grey    []int
	Lost    bool
	Table   []int
	Stats   api.Stats
}

func see(c *core.Core) picture {
	p := picture{Rest: *c, Count: c.Arena.Count(), Starts: starts(c), Rem: [2]int{c.Rem.Left(), c.Rem.Len()}, Grey: c.Grey.All(), Lost: c.Grey.Lost(), Table: c.Table.All(), Stats: c.Stats()}
	p.Rest.Arena, p.Rest.Young, p.Rest.Old, p.Rest.Rem, p.Rest.Grey, p.Rest.Table = nil, nil, nil, nil, nil, nil
	p.Rest.Row = slices.Clone(c.Row)
	now, other := c.Young.Begin()
	p.Halves = [5]int{now, other, c.Young.Used(), c.Young.Left(), c.Young.Room()}
	page, ok := c.Old.Pending()
	p.Pages, p.Pending = [3]int{c.Old.Free(), c.Old.Used(), page}, ok
	p.Words = words(c)
	return p
}

// words: those of the arena. A picture asks for them, so that it tells the count that was there ahead of it.
func words(c *core.Core) []uint64 {
	var list []uint64
	for at := range c.Arena.Len() {
		w, _ := c.Arena.Load(at)
		list = append(list, w)
	}
	return list
}

// starts: where what is old begins.
func starts(c *core.Core) []int {
	return c.Old.Starts(0, 2*api.MaxWords)
}

// alike: both pictures are the same.
func alike(t *testing.T, what string, got, want picture) {
	t.Helper()
	if !reflect.DeepEqual(got, want) {
		t.Fatalf("%s:\n%+v, not\n%+v", what, got, want)
	}
}

// still: nothing of a heap is changed by it, and no word is asked for.
func still(t *testing.T, h *Heap, what string, call func()) {
	t.Helper()
	c := h.Core()
	ahead, count := see(c), h.Work()
	call()
	same(t, what+" asks for words", h.Work()-count, 0)
	behind := see(c)
	behind.Count = ahead.Count
	alike(t, what+" changes it", behind, ahead)
}
