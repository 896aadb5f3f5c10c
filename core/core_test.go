package core

import (
	"math"
	"reflect"
	"slices"
	"testing"

	"tilth/api"
	"tilth/arena"
	"tilth/bump"
	"tilth/table"
)

func TestNewChecks(t *testing.T) {
	for i, change := range []func(c *api.Config){
		func(c *api.Config) { *c = api.Config{} },
		func(c *api.Config) { c.Handles = 0 },
		func(c *api.Config) { c.Handles = api.MaxHandles + 1 },
		func(c *api.Config) { c.Nursery = 7 },
		func(c *api.Config) { c.Nursery = api.MaxNursery + 1 },
		func(c *api.Config) { c.Pages = -1 },
		func(c *api.Config) { c.Pages = api.MaxPages + 1 },
		func(c *api.Config) { c.Page = 15 },
		func(c *api.Config) { c.Page = api.MaxPage + 1 },
		func(c *api.Config) { c.Card = 0 },
		func(c *api.Config) { c.Card = 5 },
		func(c *api.Config) { c.Buffer = -1 },
		func(c *api.Config) { c.Stack = 0 },
		func(c *api.Config) { c.Tenure = 0 },
		func(c *api.Config) { c.Tenure = api.MaxAge + 1 },
		func(c *api.Config) { c.Largest = -1 },
		func(c *api.Config) { c.Nursery, c.Largest, c.MinorAt = 8, 7, 0 },
		func(c *api.Config) { c.Minor = api.MaxTax + 1 },
		func(c *api.Config) { c.Major = -1 },
		func(c *api.Config) { c.MinorAt = 41 },
		func(c *api.Config) { c.MajorAt = math.MinInt },
	} {
		x := plain()
		change(&x)
		if c, e := New(x); c != nil || e != api.ErrArg {
			t.Errorf("%d: %v, %d", i, c, e)
		}
	}
}

// configs are a plain one, the least one and the greatest one, and one without pages.
func configs() []api.Config {
	bare := plain()
	bare.Pages, bare.MajorAt = 0, 0
	return []api.Config{
		plain(),
		{Handles: 1, Nursery: 8, Page: 16, Card: 1, Stack: 1, Tenure: 1},
		{Handles: 64, Nursery: 4096, Pages: 64, Page: 256, Card: 256, Buffer: 256, Stack: 256, Tenure: 7, Largest: 64, Minor: 64, Major: 64, MinorAt: 4096, MajorAt: 64},
		bare,
	}
}

func TestNewParts(t *testing.T) {
	for _, x := range configs() {
		c := fresh(t, x)
		old, all := 1+2*x.Nursery, x.Pages*x.Page
		same(t, "C", c.C, x)
		same(t, "the arena", c.Arena.Len(), old+all)
		same(t, "what was asked for", c.Arena.Count(), 0)
		now, other := c.Young.Begin()
		same(t, "the halves", [5]int{now, other, c.Young.Room(), c.Young.Used(), c.Young.Left()}, [5]int{1, 1 + x.Nursery, x.Nursery, 0, 0})
		same(t, "pages", c.Old.Free(), x.Pages)
		for page := range x.Pages {
			from, to := c.Old.Page(page)
			same(t, "a page", [2]int{from, to}, [2]int{old + page*x.Page, old + page*x.Page + x.Page})
		}
		lists(t, "handles", c.Table.All(), make([]int, x.Handles)...)
		rest := *c
		rest.C, rest.Arena, rest.Young, rest.Old, rest.Rem, rest.Grey, rest.Table = api.Config{}, nil, nil, nil, nil, nil, nil
		if len(rest.Row) != 0 {
			t.Fatal(rest.Row)
		}
		rest.Row = nil
		if slices.Contains(rest.within, true) {
			t.Fatal(rest.within)
		}
		rest.within = nil
		if !reflect.DeepEqual(rest, Core{Look: -1}) {
			t.Fatalf("the rest: %+v", rest)
		}
		same(t, "Stats", c.Stats(), api.Stats{Free: all})
		remembers(t, c)
		stacks(t, c)
	}
}

// remembers: Rem is of the old space, with the configuration's buffer and cards.
func remembers(t *testing.T, c *Core) {
	t.Helper()
	x := c.C
	old, all := 1+2*x.Nursery, x.Pages*x.Page
	for _, at := range []int{-1, 0, old - 1, old + all} {
		same(t, "Add outside", c.Rem.Add(at), false)
	}
	same(t, "how many", [2]int{c.Rem.Left(), c.Rem.Len()}, [2]int{0, 0})
	if all == 0 {
		return
	}
	for n := range x.Buffer + 2 {
		same(t, "Add", c.Rem.Add(old+all-1), true)
		same(t, "how many", c.Rem.Len(), min(n+1, x.Buffer+1))
	}
	c.Rem.Flip()
	for range x.Buffer {
		_, _, part, ok := c.Rem.Next()
		same(t, "a place", [2]bool{part, ok}, [2]bool{false, true})
	}
	from, to, part, ok := c.Rem.Next()
	same(t, "a card", [2]int{from, to}, [2]int{old + all - x.Card, old + all})
	same(t, "a card", [2]bool{part, ok}, [2]bool{true, true})
}

// stacks: Grey has room for the configuration's Stack.
func stacks(t *testing.T, c *Core) {
	t.Helper()
	same(t, "a new stack", [2]bool{c.Grey.Len() == 0, c.Grey.Lost()}, [2]bool{true, false})
	for range c.C.Stack {
		same(t, "Push", c.Grey.Push(1), true)
	}
	same(t, "Push", c.Grey.Push(1), false)
}

func TestCoresLieApart(t *testing.T) {
	a, b := fresh(t, plain()), fresh(t, plain())
	still(t, b, "another core", func() {
		makes(t, a, 0, 2, 1)
		makes(t, a, 1, 0, 2)
		is(t, a.Set(0, 0, 1), api.OK)
		is(t, a.Write(1, 0, 9), api.OK)
		ages(t, a, 2)
		a.Note(holds(t, a, 0))
		marks(a)
		a.Mark(holds(t, a, 0))
	})
}

// answers: every call, of a core that can't do anything, tells e, and nothing else.
func answers(t *testing.T, c *Core, e api.Errno, n int) {
	t.Helper()
	for i, got := range []api.Errno{c.Make(n, n, n), c.Make(0, 0, 0), c.Get(n, n, n), c.Get(0, 0, 0), c.Set(n, n, n), c.Set(0, 0, 0), c.Write(n, n, 1), c.Write(0, 0, 1), c.Clear(n), c.Clear(0), c.Copy(n, n), c.Copy(0, 0)} {
		if got != e {
			t.Fatalf("call %d of %d: %d", i, n, got)
		}
	}
	if w, got := c.Read(n, n); w != 0 || got != e {
		t.Fatalf("Read(%d): %d, %d", n, w, got)
	}
	if yes, got := c.Same(n, n); yes || got != e {
		t.Fatalf("Same(%d): %v, %d", n, yes, got)
	}
	if yes, got := c.Nil(n); yes || got != e {
		t.Fatalf("Nil(%d): %v, %d", n, yes, got)
	}
	if p, s, got := c.Shape(n); p != 0 || s != 0 || got != e {
		t.Fatalf("Shape(%d): %d, %d, %d", n, p, s, got)
	}
	same(t, "Now", c.Now(n), n)
	same(t, "Move", c.Move(n), n)
	c.Mark(n)
	c.Note(n)
	same(t, "Stats", c.Stats(), api.Stats{})
}

func TestNoCore(t *testing.T) {
	var c *Core
	for _, n := range append([]int{0, 1, 5, 6, 64}, far...) {
		answers(t, c, api.ErrArg, n)
	}
}

// A core that nobody made has no handles, and no places.
func TestZeroCore(t *testing.T) {
	for phase := range 4 {
		for _, moving := range []bool{false, true} {
			c := &Core{Phase: phase, Moving: moving}
			for _, n := range append([]int{0, 1, 5, 6, 64}, far...) {
				answers(t, c, api.ErrHandle, n)
			}
		}
	}
}

// Whatever parts are missing, every call answers.
func TestMissingParts(t *testing.T) {
	for missing := range 1 << 6 {
		for _, n := range append([]int{0, 1, 2, 3, 5, 6, 41, 81}, far...) {
			c := fresh(t, aged(1))
			makes(t, c, 0, 1, 1)
			makes(t, c, 1, 0, 0)
			is(t, c.Set(0, 0, 1), api.OK)
			flips(t, c)
			marks(c)
			loses(c, missing)
			calls(c, n)
		}
	}
}

// loses: the parts whose bits are set are not there.
func loses(c *Core, missing int) {
	for bit, lose := range []func(){
		func() { c.Arena = nil },
		func() { c.Young = nil },
		func() { c.Old = nil },
		func() { c.Rem = nil },
		func() { c.Grey = nil },
		func() { c.Table = nil },
	} {
		if missing>>bit&1 == 1 {
			lose()
		}
	}
}

// calls: all of them, whatever they answer.
func calls(c *Core, n int) {
	c.Make(2, 1, 1)
	c.Make(n, n, n)
	c.Get(n, 0, 0)
	c.Get(3, 0, 0)
	c.Get(3, n, n)
	c.Set(0, n, 0)
	c.Set(0, 0, n)
	c.Set(n, n, n)
	c.Read(n, 0)
	c.Read(0, n)
	c.Write(0, n, 7)
	c.Write(0, 0, 7)
	c.Copy(n, 0)
	c.Same(n, 0)
	c.Nil(n)
	c.Shape(n)
	c.Shape(0)
	c.Now(n)
	c.Move(n)
	c.Mark(n)
	c.Note(n)
	c.Stats()
	c.Clear(n)
}

// Of parts that don't fit together nothing is promised, but that every call answers.
func TestPartsThatDoNotFit(t *testing.T) {
	c := fresh(t, plain())
	c.Arena = arena.New(4)
	is(t, c.Make(0, 1, 2), api.ErrRange)
	c = fresh(t, plain())
	c.Table = table.New(1)
	is(t, c.Make(1, 0, 0), api.ErrHandle)
	c = fresh(t, plain())
	c.Young = bump.New(1, 3)
	is(t, c.Make(0, 0, 2), api.ErrRoom)
	c = fresh(t, plain())
	c.Parity = 2
	is(t, c.Make(0, 0, 2), api.ErrArg)
	c = fresh(t, plain())
	is(t, c.Table.Set(0, 77), api.OK)
	is(t, c.Write(0, 0, 2), api.ErrArg)
	is(t, c.Table.Set(0, -77), api.OK)
	is(t, c.Get(0, 0, 2), api.ErrRange)
}

func TestMakeErrors(t *testing.T) {
	c := fresh(t, plain())
	for _, x := range []struct {
		h, ptrs, scalars int
		want             api.Errno
	}{
		{6, 0, 0, api.ErrHandle}, {-1, 0, 0, api.ErrHandle}, {6, -1, 0, api.ErrHandle}, {6, 7, 0, api.ErrHandle},
		{math.MaxInt, 0, 0, api.ErrHandle}, {math.MinInt, 0, 0, api.ErrHandle},
		{0, -1, 0, api.ErrSize}, {0, 0, -1, api.ErrSize}, {0, -1, -1, api.ErrSize}, {0, -1, 7, api.ErrSize}, {0, 7, -1, api.ErrSize},
		{0, 7, 0, api.ErrSize}, {0, 0, 7, api.ErrSize}, {0, 4, 3, api.ErrSize}, {0, 1, 6, api.ErrSize}, {0, 6, 1, api.ErrSize},
		{0, math.MaxInt, math.MaxInt, api.ErrSize}, {0, math.MaxInt, 1, api.ErrSize}, {0, 1, math.MaxInt, api.ErrSize},
		{0, math.MinInt, math.MinInt, api.ErrSize}, {0, math.MinInt, 0, api.ErrSize}, {0, 0, math.MinInt, api.ErrSize},
		{0, math.MaxInt, math.MinInt, api.ErrSize}, {0, math.MinInt, math.MaxInt, api.ErrSize}, {0, math.MaxInt, 0, api.ErrSize},
	} {
		still(t, c, "Make", func() { is(t, c.Make(x.h, x.ptrs, x.scalars), x.want) })
	}
	for range 5 {
		is(t, c.Make(0, 3, 3), api.OK)
	}
	still(t, c, "Make", func() {
		is(t, c.Make(0, 0, 0), api.ErrRoom)
		is(t, c.Make(5, 6, 0), api.ErrRoom)
		is(t, c.Make(0, 6, 1), api.ErrSize)
		is(t, c.Make(6, 0, 0), api.ErrHandle)
	})
}

func TestMakeObjects(t *testing.T) {
	c := fresh(t, plain())
	for at := range c.Arena.Len() {
		is(t, c.Arena.Store(at, math.MaxUint64), api.OK) // what stood there ahead is not to be seen
	}
	at, words := 1, 0
	for i, x := range []struct{ h, ptrs, scalars, parity int }{{0, 2, 1, 0}, {5, 0, 0, 1}, {0, 0, 6, 1}, {3, 6, 0, 0}, {4, 3, 3, 0}} {
		c.Parity = x.parity
		same(t, "the place", makes(t, c, x.h, x.ptrs, x.scalars), at)
		same(t, "the head", headOf(t, c, at), api.Head{Size: x.ptrs + x.scalars, Ptrs: x.ptrs, Parity: x.parity})
		same(t, "the way", wayOf(t, c, at), at)
		for n := range x.ptrs + x.scalars {
			same(t, "a field", fieldOf(t, c, at, n), 0)
		}
		at, words = at+x.ptrs+x.scalars+2, words+x.ptrs+x.scalars+2
		same(t, "Used", c.Young.Used(), words)
		same(t, "Done", c.Done, api.Stats{Allocs: i + 1, Words: words})
		same(t, "Stats", c.Stats(), api.Stats{Allocs: i + 1, Words: words, Young: words, Free: 64})
	}
	lists(t, "handles", c.Table.All(), 8, 0, 0, 16, 24, 6)
}

// The half is filled to its last word, and no further.
func TestMakeFillsTheHalf(t *testing.T) {
	for words := 8; words <= 24; words++ {
		x := plain()
		x.Nursery, x.MinorAt = words, 0
		c := fresh(t, x)
		for c.Young.Room() > 8 {
			is(t, c.Make(0, 0, 1), api.OK)
		}
		for fields := 6; fields+2 > c.Young.Room(); fields-- {
			still(t, c, "Make", func() { is(t, c.Make(0, fields, 0), api.ErrRoom) })
		}
		is(t, c.Make(0, 0, c.Young.Room()-2), api.OK)
		same(t, "Room", c.Young.Room(), 0)
		still(t, c, "Make", func() { is(t, c.Make(0, 0, 0), api.ErrRoom) })
	}
}

// While Moving, room is kept for all that may be moved still, in whatever order it is moved, or is not.
func TestMakeWhileMoving(t *testing.T) {
	c := fresh(t, plain())
	a, b := makes(t, c, 0, 0, 6), makes(t, c, 1, 0, 3)
	flips(t, c)
	for range 3 { // 40 less 13 are 27
		is(t, c.Make(2, 0, 6), api.OK)
	}
	still(t, c, "Make", func() { is(t, c.Make(2, 0, 2), api.ErrRoom) })
	is(t, c.Make(2, 0, 1), api.OK)
	for _, at := range []int{b, a} {
		still(t, c, "Make", func() { is(t, c.Make(2, 0, 0), api.ErrRoom) })
		if to := c.Move(at); to <= 41 || to >= 81 {
			t.Fatalf("Move(%d): %d", at, to)
		}
	}
	same(t, "Room", c.Young.Room(), 0)
	same(t, "Copied", c.Copied, 13)
	drops(c)
	same(t, "Used", c.Young.Used(), 40)
}

// Only while Moving room is kept.
func TestMakeWhileNotMoving(t *testing.T) {
	c := fresh(t, plain())
	makes(t, c, 0, 0, 6)
	flips(t, c)
	c.Moving = false
	for range 5 {
		is(t, c.Make(1, 0, 6), api.OK)
	}
	is(t, c.Make(1, 0, 0), api.ErrRoom)
}

// What became old needs no room of the half any more, and what was left behind is none of what is used.
func TestMakeBehindPromotion(t *testing.T) {
	c := fresh(t, aged(1))
	a := makes(t, c, 0, 0, 6)
	makes(t, c, 1, 0, 6)
	flips(t, c)
	for range 3 { // 40 less 16 are 24
		is(t, c.Make(2, 0, 6), api.OK)
	}
	still(t, c, "Make", func() { is(t, c.Make(2, 0, 0), api.ErrRoom) })
	if to := c.Move(a); to != 81 {
		t.Fatalf("Move: %d", to)
	}
	is(t, c.Make(2, 0, 6), api.OK)
	still(t, c, "Make", func() { is(t, c.Make(2, 0, 0), api.ErrRoom) })
	drops(c)
	is(t, c.Make(2, 0, 6), api.OK)
	still(t, c, "Make", func() { is(t, c.Make(2, 0, 0), api.ErrRoom) })
}

func TestStats(t *testing.T) {
	c := fresh(t, aged(1))
	makes(t, c, 0, 0, 3)
	makes(t, c, 1, 0, 1)
	c.Done.Minors, c.Done.Majors = 7, 9
	c.Done.Young, c.Done.Old, c.Done.Free = 100, 100, 100 // these are not Done's to tell
	same(t, "Stats", c.Stats(), api.Stats{Allocs: 2, Words: 8, Minors: 7, Majors: 9, Young: 8, Free: 64})
	flips(t, c)
	makes(t, c, 2, 0, 0)
	same(t, "Stats", c.Stats(), api.Stats{Allocs: 3, Words: 10, Minors: 7, Majors: 9, Young: 10, Free: 64})
	is(t, c.Table.Set(0, c.Move(holds(t, c, 0))), api.OK) // 5 words, in a cell of 6
	same(t, "Stats", c.Stats(), api.Stats{Allocs: 3, Words: 10, Promoted: 5, Minors: 7, Majors: 9, Young: 10, Old: 6, Free: 58})
	drops(c)
	still(t, c, "Stats", func() {
		same(t, "Stats", c.Stats(), api.Stats{Allocs: 3, Words: 10, Promoted: 5, Minors: 7, Majors: 9, Young: 2, Old: 6, Free: 58})
	})
}
