package major

import (
	"math"
	"reflect"
	"testing"

	"tilth/api"
	"tilth/class"
	"tilth/core"
)

// paged is a heap with old ones on many pages, of which every other one is held; something large stands on the last ones.
func paged(t *testing.T) *core.Core {
	t.Helper()
	c := fresh(t, roomy())
	for h, scalars := range []int{0, 0, 6, 6, 6, 6, 19, 19} {
		makes(t, c, h, 0, scalars)
	}
	ages(t, c, 2)
	lists(t, "what is old", starts(c), 201, 205, 217, 225, 233, 241, 249, 281)
	clears(t, c, 1, 3, 5, 7)
	begins(t, c)
	for c.Phase == api.Marks {
		Step(c)
	}
	return c
}

// A bit of Sweep is a page: what was not found is given back, and what was stays.
func TestPages(t *testing.T) {
	c := paged(t)
	for _, bit := range []struct {
		page, words int
		starts      []int
	}{
		{0, 4, []int{201, 217, 225, 233, 241, 249, 281}},
		{1, 16, []int{201, 217, 233, 241, 249, 281}},
		{2, 16, []int{201, 217, 233, 249, 281}},
		{3, 21, []int{201, 217, 233, 249, 281}},
		{5, 21, []int{201, 217, 233, 249}},
	} {
		page, ok := c.Old.Pending()
		same(t, "Pending", page, bit.page)
		same(t, "Pending", ok, true)
		steps(t, c, bit.words)
		lists(t, "what is old", starts(c), bit.starts...)
		same(t, "is it pending still", c.Old.Done(bit.page), false)
	}
	same(t, "Free", c.Old.Free(), 3)
	ends(t, c)
	are(t, c, colour{1, false}, starts(c)...)
}

// A page that has become free, or was done, is no bit any more; nor is one that was taken since.
func TestPagesThatAreDone(t *testing.T) {
	c := paged(t)
	c.Old.Done(1)
	c.Old.Give(249)
	c.Old.Give(201)
	c.Old.Give(205)
	steps(t, c, 16)
	lists(t, "what is old", starts(c), 217, 225, 233, 281)
	steps(t, c, 21)
	lists(t, "what is old", starts(c), 217, 225, 233)
	ends(t, c)
}

// What becomes old while pages are swept stays, and finds room where there is some.
func TestPromotedAmidASweep(t *testing.T) {
	for stop := range 6 {
		c := fresh(t, roomy())
		for h := range 5 {
			makes(t, c, h, 0, 6)
		}
		ages(t, c, 1)
		for h := range 3 {
			makes(t, c, 5+h, 0, 6)
		}
		ages(t, c, 1)
		clears(t, c, 0, 2, 3, 4)
		begins(t, c)
		for c.Phase == api.Marks {
			Step(c)
		}
		for range min(stop, 4) {
			Step(c)
		}
		ages(t, c, 1)
		if c.Phase != api.Idle {
			finish(t, c)
		}
		for _, h := range []int{1, 5, 6, 7} {
			_, ok := c.Old.Size(holds(t, c, h))
			same(t, "is it there", ok, true)
			same(t, "Parity", headOf(t, c, holds(t, c, h)).Parity, 1)
		}
		same(t, "Used", c.Old.Used(), 4*class.Cell(16, 8))
		begins(t, c)
		clears(t, c, 5)
		finish(t, c)
		same(t, "Used", c.Old.Used(), 4*class.Cell(16, 8))
		begins(t, c)
		finish(t, c)
		same(t, "Used", c.Old.Used(), 3*class.Cell(16, 8))
	}
}

// Young ones are not given back by a sweep, found or not: they go with a minor cycle.
func TestYoungOnesStay(t *testing.T) {
	c := rich(t)
	ahead := c.Young.Used()
	begins(t, c)
	finish(t, c)
	same(t, "Used", c.Young.Used(), ahead)
	are(t, c, colour{0, false}, gone)
	ages(t, c, 1)
	same(t, "Used", c.Young.Used(), ahead-4)
}

// wide is a cycle with many bits, that has begun.
func wide(t *testing.T) *core.Core {
	t.Helper()
	x := roomy()
	x.Nursery, x.Pages, x.Tenure = 300, 30, 1
	c := fresh(t, x)
	tree(t, c, 0, 3)
	tree(t, c, 1, 3)
	ages(t, c, 1)
	tree(t, c, 2, 3)
	sets(t, c, 2, 0, 1)
	clears(t, c, 1)
	begins(t, c)
	return c
}

// Run is Steps, as long as their work is below what was asked for, and there is more.
func TestRun(t *testing.T) {
	all := Run(wide(t), math.MaxInt)
	same(t, "is the whole of it more than a few bits", all > 20, true)
	for work := -3; work < all+10; work++ {
		a, b := wide(t), wide(t)
		want := 0
		for more := true; more && want < work; {
			var n int
			n, more = Step(b)
			want += n
		}
		same(t, "Run", Run(a, work), want)
		if !reflect.DeepEqual(see(a), see(b)) {
			t.Fatalf("Run of %d is not as its Steps", work)
		}
		same(t, "is it under way", a.Phase != api.Idle, want < all)
		same(t, "Run of the rest", Run(a, math.MaxInt), all-want)
		same(t, "Majors", a.Done.Majors, 1)
	}
}

// No work is asked for, and none is done.
func TestRunOfNothing(t *testing.T) {
	c := wide(t)
	still(t, c, "Run", func() {
		for _, work := range far {
			if work <= 0 {
				same(t, "Run", Run(c, work), 0)
			}
		}
	})
}

// However much work is asked for, it ends with the cycle, and begins no other one.
func TestRunOfMuch(t *testing.T) {
	for _, work := range []int{api.MaxWords, math.MaxInt32, math.MaxInt - 1, math.MaxInt} {
		c := wide(t)
		same(t, "is there work", Run(c, work) > 0, true)
		same(t, "Phase", c.Phase, api.Idle)
		same(t, "Majors", c.Done.Majors, 1)
		still(t, c, "Run", func() { same(t, "Run", Run(c, work), 0) })
	}
}
