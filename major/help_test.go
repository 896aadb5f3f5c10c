package major

import (
	"math"
	"reflect"
	"slices"
	"testing"

	"tilth/api"
	"tilth/core"
	"tilth/minor"
	"tilth/obj"
)

// far is numbers at the ends of int, and those that are no place, or no work.
var far = []int{math.MinInt, math.MinInt + 1, math.MinInt32, -1, 0, api.MaxWords, api.MaxWords + 1, math.MaxInt32, math.MaxInt - 1, math.MaxInt}

// plain is a small heap: halves from 1 and 41 on, four pages from 81 on; what is moved twice becomes old.
func plain() api.Config {
	return api.Config{Handles: 6, Nursery: 40, Pages: 4, Page: 16, Card: 8, Buffer: 1, Stack: 2, Tenure: 2, Largest: 6, Minor: 3, Major: 3, MinorAt: 20, MajorAt: 1}
}

// aged is a plain one with another Tenure.
func aged(tenure int) api.Config {
	x := plain()
	x.Tenure = tenure
	return x
}

func fresh(t *testing.T, x api.Config) *core.Core {
	t.Helper()
	c, e := core.New(x)
	if e != api.OK || c == nil {
		t.Fatalf("New(%+v): %v, %d", x, c, e)
	}
	return c
}

// is: the call answers this error.
func is(t *testing.T, got, want api.Errno) {
	t.Helper()
	if got != want {
		t.Fatalf("the error is %d, not %d", got, want)
	}
}

// same: both are the same.
func same[T comparable](t *testing.T, what string, got, want T) {
	t.Helper()
	if got != want {
		t.Fatalf("%s: %v, not %v", what, got, want)
	}
}

// lists: the list has these.
func lists(t *testing.T, what string, got []int, want ...int) {
	t.Helper()
	if !slices.Equal(got, want) {
		t.Fatalf("%s: %v, not %v", what, got, want)
	}
}

// makes: a new object for a handle; where it is.
func makes(t *testing.T, c *core.Core, h, ptrs, scalars int) int {
	t.Helper()
	is(t, c.Make(h, ptrs, scalars), api.OK)
	return holds(t, c, h)
}

// sets: a reference of what a handle holds is what another one holds.
func sets(t *testing.T, c *core.Core, h, n, from int) {
	t.Helper()
	is(t, c.Set(h, n, from), api.OK)
}

// clears: these handles hold nothing.
func clears(t *testing.T, c *core.Core, handles ...int) {
	t.Helper()
	for _, h := range handles {
		is(t, c.Clear(h), api.OK)
	}
}

// holds: what a handle holds.
func holds(t *testing.T, c *core.Core, h int) int {
	t.Helper()
	at, e := c.Table.Get(h)
	is(t, e, api.OK)
	return at
}

// headOf, fieldOf: what stands there.
func headOf(t *testing.T, c *core.Core, at int) api.Head {
	t.Helper()
	h, e := obj.Head(c.Arena, at)
	is(t, e, api.OK)
	return h
}

func fieldOf(t *testing.T, c *core.Core, at, n int) int {
	t.Helper()
	w, e := obj.Field(c.Arena, at, n)
	is(t, e, api.OK)
	return int(w)
}

// heads: another head stands there.
func heads(t *testing.T, c *core.Core, at int, change func(h *api.Head)) {
	t.Helper()
	h := headOf(t, c, at)
	change(&h)
	is(t, obj.SetHead(c.Arena, at, h), api.OK)
}

// begins: a cycle begins.
func begins(t *testing.T, c *core.Core) {
	t.Helper()
	same(t, "Start", Start(c), true)
	same(t, "Phase", c.Phase, api.Marks)
}

// steps: a bit that is not the last one; its work is as it may be, when it looked at so many words.
func steps(t *testing.T, c *core.Core, words int) {
	t.Helper()
	work, more := Step(c)
	same(t, "is there more", more, true)
	same(t, "Phase", c.Phase != api.Idle, true)
	if work < 1 || work > 2*words+8 {
		t.Fatalf("the work is %d, of %d words", work, words)
	}
}

// sweeps: nothing is grey any more, and what is old is to be swept.
func sweeps(t *testing.T, c *core.Core) {
	t.Helper()
	same(t, "Phase", c.Phase, api.Marks)
	steps(t, c, 0)
	same(t, "Phase", c.Phase, api.Sweep)
	same(t, "Grey", c.Grey.Len() > 0 || c.Grey.Lost(), false)
}

// ends: there is no bit left, and the cycle is at its end.
func ends(t *testing.T, c *core.Core) {
	t.Helper()
	majors := c.Done.Majors
	work, more := Step(c)
	same(t, "is there more", more, false)
	if work < 1 || work > 8 {
		t.Fatalf("the work is %d, of no words", work)
	}
	same(t, "Phase", c.Phase, api.Idle)
	same(t, "Majors", c.Done.Majors, majors+1)
	_, pending := c.Old.Pending()
	same(t, "is something to be swept", pending, false)
}

// finish: bits, till the cycle is at its end; how many.
func finish(t *testing.T, c *core.Core) int {
	t.Helper()
	for n := 1; n < 10000; n++ {
		work, more := Step(c)
		if work < 1 || more != (c.Phase != api.Idle) {
			t.Fatalf("the work is %d, more %v", work, more)
		}
		if !more {
			return n
		}
	}
	t.Fatal("no end")
	return 0
}

// ages: so many whole minor cycles.
func ages(t *testing.T, c *core.Core, times int) {
	t.Helper()
	for range times {
		same(t, "minor's Start", minor.Start(c), true)
		minor.Run(c, math.MaxInt)
		same(t, "Moving", c.Moving, false)
	}
}

// starts: where what is old begins.
func starts(c *core.Core) []int {
	return c.Old.Starts(0, 2*api.MaxWords)
}

// colour is what a major cycle knows of an object.
type colour struct {
	Parity int
	Grey   bool
}

// colours: what is known of what stands there.
func colours(t *testing.T, c *core.Core, places ...int) []colour {
	t.Helper()
	var list []colour
	for _, at := range places {
		h := headOf(t, c, at)
		list = append(list, colour{h.Parity, h.Grey})
	}
	return list
}

// are: that is known of what stands at each of these places.
func are(t *testing.T, c *core.Core, want colour, places ...int) {
	t.Helper()
	for i, got := range colours(t, c, places...) {
		if got != want {
			t.Fatalf("at %d: %v, not %v", places[i], got, want)
		}
	}
}

// picture is all that is to be seen of a core, but for how many words were asked for.
type picture struct {
	Rest    core.Core
	Words   []uint64
	Halves  [5]int
	Starts  []int
	Pages   [3]int
	Pending bool
	Rem     [2]int
	Grey    []int
	Lost    bool
	Table   []int
}

func see(c *core.Core) picture {
	p := picture{Rest: *c, Starts: c.Old.Starts(0, 2*api.MaxWords), Rem: [2]int{c.Rem.Left(), c.Rem.Len()}, Grey: c.Grey.All(), Lost: c.Grey.Lost(), Table: c.Table.All()}
	p.Rest.Arena, p.Rest.Young, p.Rest.Old, p.Rest.Rem, p.Rest.Grey, p.Rest.Table = nil, nil, nil, nil, nil, nil
	p.Rest.Row = slices.Clone(c.Row)
	for at := range c.Arena.Len() {
		w, _ := c.Arena.Load(at)
		p.Words = append(p.Words, w)
	}
	now, other := c.Young.Begin()
	p.Halves = [5]int{now, other, c.Young.Used(), c.Young.Left(), c.Young.Room()}
	page, ok := c.Old.Pending()
	p.Pages, p.Pending = [3]int{c.Old.Free(), c.Old.Used(), page}, ok
	return p
}

// still: nothing of a core is changed by it.
func still(t *testing.T, c *core.Core, what string, call func()) {
	t.Helper()
	ahead := see(c)
	call()
	alike(t, what, see(c), ahead)
}

// alike: both pictures are the same.
func alike(t *testing.T, what string, got, want picture) {
	t.Helper()
	if !reflect.DeepEqual(got, want) {
		t.Fatalf("%s changes it: from\n%+v to\n%+v", what, want, got)
	}
}
