package minor

import (
	"testing"

	"tilth/api"
	"tilth/core"
)

// Of no core there is nothing to do.
func TestNoCore(t *testing.T) {
	same(t, "Start", Start(nil), false)
	work, more := Step(nil)
	same(t, "Step", work, 0)
	same(t, "more", more, false)
	for _, n := range append([]int{1, 99}, far...) {
		same(t, "Run", Run(nil, n), 0)
	}
}

// A core without parts, or one whose numbers are wrong, is nothing that is promised, but each call of it ends.
func TestMissingParts(t *testing.T) {
	c := &core.Core{}
	same(t, "Start", Start(c), true)
	ends(t, c)
	same(t, "Run", Run(c, 99), 0)
	for _, at := range append([]int{2, 40, 41, 42, 80, 81, 90, 144, 145}, far...) {
		c := fresh(t, aged(1))
		makes(t, c, 0, 1, 1)
		makes(t, c, 1, 1, 1)
		sets(t, c, 0, 0, 1)
		begins(t, c)
		makes(t, c, 2, 6, 0)
		c.Row = append(c.Row, at, at)
		c.Scan = at
		finish(t, c)
	}
	for _, cut := range []func(c *core.Core){
		func(c *core.Core) { c.Arena = nil },
		func(c *core.Core) { c.Young = nil },
		func(c *core.Core) { c.Old = nil },
		func(c *core.Core) { c.Rem = nil },
		func(c *core.Core) { c.Grey = nil },
		func(c *core.Core) { c.Table = nil },
	} {
		for when := range 2 {
			c := rich(t)
			if when == 0 {
				cut(c)
			}
			begins(t, c)
			cut(c)
			finish(t, c)
		}
	}
}

// What is not Moving has no bits.
func TestStepOfNothing(t *testing.T) {
	for _, c := range []*core.Core{fresh(t, plain()), rich(t)} {
		for range 3 {
			still(t, c, "Step and Run", func() {
				work, more := Step(c)
				same(t, "Step", work, 0)
				same(t, "more", more, false)
				for _, n := range append([]int{1, 99}, far...) {
					same(t, "Run", Run(c, n), 0)
				}
			})
			cycles(t, c, 1)
		}
	}
}

// Where the objects of a rich heap are.
const (
	elder   = 81 // old, Noted, refers to child and to itself
	partner = 85 // old, not Noted, refers to elder
	ripe    = 41 // was moved once, refers to child
	unripe  = 45 // refers to ripe and to fellow
	fellow  = 49 // nothing but unripe refers to it
	waste   = 53 // nothing refers to it, but it refers to fellow
	child   = 56
)

// rich is a heap of each kind of object: handles 0 to 3 hold elder, ripe, unripe, unripe; 4 none, 5 partner.
func rich(t *testing.T) *core.Core {
	t.Helper()
	c := fresh(t, plain())
	makes(t, c, 0, 2, 0)
	makes(t, c, 5, 1, 1)
	sets(t, c, 0, 1, 0)
	sets(t, c, 5, 0, 0)
	cycles(t, c, 2)
	makes(t, c, 1, 1, 1)
	cycles(t, c, 1)
	makes(t, c, 2, 2, 0)
	makes(t, c, 3, 1, 1)
	makes(t, c, 4, 1, 0)
	sets(t, c, 4, 0, 3)
	sets(t, c, 2, 0, 1)
	sets(t, c, 2, 1, 3)
	is(t, c.Write(1, 0, 1001), api.OK)
	is(t, c.Write(3, 0, 1003), api.OK)
	same(t, "waste", holds(t, c, 4), waste)
	same(t, "child", makes(t, c, 4, 0, 1), child)
	is(t, c.Write(4, 0, 1004), api.OK)
	sets(t, c, 0, 0, 4)
	sets(t, c, 1, 0, 4)
	is(t, c.Copy(3, 2), api.OK)
	clears(t, c, 4)
	lists(t, "handles", c.Table.All(), elder, ripe, unripe, unripe, 0, partner)
	same(t, "Noted", headOf(t, c, elder).Noted, true)
	same(t, "Noted", headOf(t, c, partner).Noted, false)
	same(t, "Used", c.Young.Used(), 18)
	return c
}

// Each handle's object leaves the half, and nothing else does yet.
func TestStart(t *testing.T) {
	c := rich(t)
	c.Row = []int{7, 9}
	row := c.Row
	ahead := see(c)
	begins(t, c)
	lists(t, "handles", c.Table.All(), elder, 89, 1, 1, 0, partner)
	lists(t, "Row", c.Row, 89)
	lists(t, "a list that was handed in", row[:2], 7, 9)
	lists(t, "Now", []int{c.Now(ripe), c.Now(unripe), c.Now(fellow), c.Now(waste), c.Now(child)}, 89, 1, fellow, waste, child)
	same(t, "Scan", c.Scan, 1)
	same(t, "Copied", c.Copied, 8)
	same(t, "Used and Left", [2]int{c.Young.Used(), c.Young.Left()}, [2]int{4, 18})
	same(t, "Rem", [2]int{c.Rem.Left(), c.Rem.Len()}, [2]int{ahead.Rem[1], 0})
	same(t, "what Rem told ahead", ahead.Rem[1], 1)
	now, other := c.Young.Begin()
	same(t, "Begin", [2]int{now, other}, [2]int{1, 41})
	want := ahead.Rest.Done
	want.Promoted += 4
	same(t, "Done", c.Done, want)
	same(t, "the head", headOf(t, c, 89), api.Head{Size: 2, Ptrs: 1, Age: 2, Old: true})
	same(t, "the head", headOf(t, c, 1), api.Head{Size: 2, Ptrs: 2, Age: 1})
	lists(t, "references are as they were", []int{fieldOf(t, c, elder, 0), fieldOf(t, c, 89, 0), fieldOf(t, c, 1, 0), fieldOf(t, c, 1, 1)}, child, child, ripe, fellow)
	still(t, c, "Start, while Moving", func() { same(t, "Start", Start(c), false) })
	finish(t, c)
	begins(t, c)
	same(t, "Scan, in the other half", c.Scan, 41)
}

// An empty heap's cycle has no bit.
func TestEmpty(t *testing.T) {
	for _, pages := range []int{0, 4} {
		x := plain()
		x.Pages, x.MajorAt = pages, 0
		c := fresh(t, x)
		for n := range 3 {
			begins(t, c)
			now, _ := c.Young.Begin()
			same(t, "the half", now, []int{41, 1}[n%2])
			same(t, "Scan", c.Scan, now)
			ends(t, c)
		}
		same(t, "Stats", c.Stats(), api.Stats{Minors: 3, Free: 16 * pages})
	}
}

// Bit by bit: each looks at one thing, and when all are done what is held is where it should be, and nothing else.
func TestBits(t *testing.T) {
	c := rich(t)
	begins(t, c)
	bits := 0
	for {
		row, left, scan := len(c.Row), c.Rem.Left(), c.Scan
		work, more := Step(c)
		if !more {
			break
		}
		bits++
		if work < 1 || work > 2*4+8 {
			t.Fatalf("the work is %d", work)
		}
		looked := left - c.Rem.Left()
		if len(c.Row) < row {
			looked++
		}
		if c.Scan > scan {
			looked++
			same(t, "the cursor", c.Scan, scan+headOf(t, c, scan).Size+api.Extra)
		}
		same(t, "things that were looked at", looked, 1)
	}
	same(t, "bits", bits, 5) // ripe of Row, elder of Rem; unripe, fellow and child of the half
	lists(t, "handles", c.Table.All(), elder, 89, 1, 1, 0, partner)
	kid, mate := fieldOf(t, c, elder, 0), fieldOf(t, c, 1, 1)
	same(t, "both are young", c.Young.In(kid) && c.Young.In(mate), true)
	lists(t, "references", []int{fieldOf(t, c, elder, 1), fieldOf(t, c, 89, 0), fieldOf(t, c, 1, 0), fieldOf(t, c, partner, 0)}, elder, kid, 89, elder)
	lists(t, "scalars", []int{fieldOf(t, c, 89, 1), fieldOf(t, c, mate, 1), fieldOf(t, c, kid, 0)}, 1001, 1003, 1004)
	same(t, "Stats", c.Stats(), api.Stats{Allocs: 7, Words: 26, Promoted: 12, Minors: 4, Young: 11, Old: 12, Free: 52})
	lists(t, "what is told next", told(t, c), elder, 89)
}

// What is of use when the cycle begins, or comes to be since, stays; what is of none goes with the next one that begins.
func TestWhatGoes(t *testing.T) {
	c := rich(t)
	begins(t, c)
	sets(t, c, 0, 0, 1) // child is ripe's alone, from now on
	clears(t, c, 2, 3)  // unripe has left the half already
	finish(t, c)
	same(t, "Young", c.Stats().Young, 4+4+3)
	cycles(t, c, 1)
	same(t, "Young", c.Stats().Young, 0)
	same(t, "Old", c.Stats().Old, 4+4+4+4) // child's cell has 4
	kid := fieldOf(t, c, 89, 0)
	same(t, "a scalar", fieldOf(t, c, kid, 0), 1004)
	cycles(t, c, 1)
	same(t, "Young", c.Stats().Young, 0)
	makes(t, c, 2, 0, 4)
	sets(t, c, 0, 0, 2)
	clears(t, c, 2)
	cycles(t, c, 1)
	same(t, "what is old holds it", c.Stats().Young, 6)
	sets(t, c, 0, 0, 2)
	cycles(t, c, 1)
	same(t, "Young", c.Stats().Young, 0)
}

// A ring of what nothing holds goes; one that is held stays a ring.
func TestRings(t *testing.T) {
	c := fresh(t, aged(3))
	for h := range 2 {
		makes(t, c, 2*h, 1, 0)
		makes(t, c, 2*h+1, 2, 1)
		sets(t, c, 2*h, 0, 2*h+1)
		sets(t, c, 2*h+1, 0, 2*h)
		sets(t, c, 2*h+1, 1, 2*h+1)
	}
	clears(t, c, 1, 2, 3)
	for n := range 4 {
		cycles(t, c, 1)
		a := holds(t, c, 0)
		b := fieldOf(t, c, a, 0)
		lists(t, "references", []int{fieldOf(t, c, b, 0), fieldOf(t, c, b, 1)}, a, b)
		same(t, "age", headOf(t, c, b).Age, min(n+1, 3))
		same(t, "Young", c.Stats().Young, []int{8, 8, 0, 0}[n])
	}
}
