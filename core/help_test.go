package core

import (
	"math"
	"reflect"
	"slices"
	"testing"

	"tilth/api"
	"tilth/head"
	"tilth/obj"
)

// far is numbers at the ends of int, and those whose sums wrap round.
var far = []int{math.MinInt, math.MinInt + 1, math.MinInt / 2, math.MinInt32, -65, -2, -1, api.MaxWords, api.MaxWords + 1, math.MaxInt32, math.MaxInt / 2, math.MaxInt - 1, math.MaxInt}

// plain is a small heap: halves from 1 and 41 on, four pages from 81 on; what is moved twice becomes old.
func plain() api.Config {
	return api.Config{Handles: 6, Nursery: 40, Pages: 4, Page: 16, Card: 8, Buffer: 1, Stack: 2, Tenure: 2, Largest: 6, Minor: 3, Major: 3, MinorAt: 20, MajorAt: 1}
}

// aged is a plain one with another Tenure.
func aged(tenure int) api.Config {
	x := plain()
	x.Tenure = tenure
	return x
}

func fresh(t *testing.T, x api.Config) *Core {
	t.Helper()
	c, e := New(x)
	if e != api.OK || c == nil {
		t.Fatalf("New(%+v): %v, %d", x, c, e)
	}
	return c
}

// is: the call answers this error.
func is(t *testing.T, got, want api.Errno) {
	t.Helper()
	if got != want {
		t.Fatalf("the error is %d, not %d", got, want)
	}
}

// same: both are the same.
func same[T comparable](t *testing.T, what string, got, want T) {
	t.Helper()
	if got != want {
		t.Fatalf("%s: %v, not %v", what, got, want)
	}
}

// lists: the list has these.
func lists(t *testing.T, what string, got []int, want ...int) {
	t.Helper()
	if !slices.Equal(got, want) {
		t.Fatalf("%s: %v, not %v", what, got, want)
	}
}

// makes: a new object for a handle; where it is.
func makes(t *testing.T, c *Core, h, ptrs, scalars int) int {
	t.Helper()
	is(t, c.Make(h, ptrs, scalars), api.OK)
	return holds(t, c, h)
}

// holds: what a handle holds.
func holds(t *testing.T, c *Core, h int) int {
	t.Helper()
	at, e := c.Table.Get(h)
	is(t, e, api.OK)
	return at
}

// headOf, wayOf, fieldOf: what stands there.
func headOf(t *testing.T, c *Core, at int) api.Head {
	t.Helper()
	h, e := obj.Head(c.Arena, at)
	is(t, e, api.OK)
	return h
}

func wayOf(t *testing.T, c *Core, at int) int {
	t.Helper()
	way, e := obj.Way(c.Arena, at)
	is(t, e, api.OK)
	return way
}

func fieldOf(t *testing.T, c *Core, at, n int) uint64 {
	t.Helper()
	w, e := obj.Field(c.Arena, at, n)
	is(t, e, api.OK)
	return w
}

// heads: another head stands there.
func heads(t *testing.T, c *Core, at int, change func(h *api.Head)) {
	t.Helper()
	h := headOf(t, c, at)
	change(&h)
	is(t, obj.SetHead(c.Arena, at, h), api.OK)
}

// likeHead is a scalar that is just like a head, of that size and half as many references.
func likeHead(t *testing.T, size int) uint64 {
	t.Helper()
	w, ok := head.Pack(api.Head{Size: size, Ptrs: size / 2})
	same(t, "Pack", ok, true)
	return w
}

// flips: from now on the half that was filled is emptied.
func flips(t *testing.T, c *Core) {
	t.Helper()
	if !c.Young.Flip() {
		t.Fatal("the other half is not empty")
	}
	c.Moving, c.Row = true, nil
}

// follow: what handles hold leaves the half that is emptied.
func follow(t *testing.T, c *Core) {
	t.Helper()
	for h, at := range c.Table.All() {
		is(t, c.Table.Set(h, c.Move(at)), api.OK)
	}
}

// drops: what was not moved is gone.
func drops(c *Core) {
	c.Young.Drop()
	c.Moving, c.Copied = false, 0
}

// ages: all that handles hold is moved so often.
func ages(t *testing.T, c *Core, times int) {
	t.Helper()
	for range times {
		flips(t, c)
		follow(t, c)
		drops(c)
	}
}

// marks: a major cycle looks for what is held; nothing is found yet.
func marks(c *Core) {
	c.Phase, c.Parity = api.Marks, 1-c.Parity
}

// picture is all that is to be seen of a core, but for how many words were asked for.
type picture struct {
	Rest    Core
	Words   []uint64
	Halves  [5]int
	Starts  []int
	Pages   [3]int
	Pending bool
	Rem     [2]int
	Grey    []int
	Lost    bool
	Table   []int
}

func see(c *Core) picture {
	p := picture{Rest: *c, Starts: c.Old.Starts(0, 2*api.MaxWords), Rem: [2]int{c.Rem.Left(), c.Rem.Len()}, Grey: c.Grey.All(), Lost: c.Grey.Lost(), Table: c.Table.All()}
	p.Rest.Arena, p.Rest.Young, p.Rest.Old, p.Rest.Rem, p.Rest.Grey, p.Rest.Table = nil, nil, nil, nil, nil, nil
	p.Rest.Row, p.Rest.within = slices.Clone(c.Row), slices.Clone(c.within)
	for at := range c.Arena.Len() {
		w, _ := c.Arena.Load(at)
		p.Words = append(p.Words, w)
	}
	now, other := c.Young.Begin()
	p.Halves = [5]int{now, other, c.Young.Used(), c.Young.Left(), c.Young.Room()}
	page, ok := c.Old.Pending()
	p.Pages, p.Pending = [3]int{c.Old.Free(), c.Old.Used(), page}, ok
	return p
}

// still: nothing of a core is changed by it.
func still(t *testing.T, c *Core, what string, call func()) {
	t.Helper()
	ahead := see(c)
	call()
	if behind := see(c); !reflect.DeepEqual(ahead, behind) {
		t.Fatalf("%s changes it: from\n%+v to\n%+v", what, ahead, behind)
	}
}
