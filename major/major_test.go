package major

import (
	"testing"

	"tilth/api"
	"tilth/core"
	"tilth/minor"
)

// Of no core there is nothing to do.
func TestNoCore(t *testing.T) {
	same(t, "Start", Start(nil), false)
	work, more := Step(nil)
	same(t, "Step", work, 0)
	same(t, "more", more, false)
	for _, n := range append([]int{1, 99}, far...) {
		same(t, "Run", Run(nil, n), 0)
	}
}

// A core without parts, or one whose numbers are wrong, is nothing that is promised, but each call of it ends.
func TestMissingParts(t *testing.T) {
	c := &core.Core{}
	same(t, "Start", Start(c), true)
	sweeps(t, c)
	ends(t, c)
	same(t, "Run", Run(c, 99), 0)
	for _, cut := range []func(c *core.Core){
		func(c *core.Core) { c.Arena = nil },
		func(c *core.Core) { c.Young = nil },
		func(c *core.Core) { c.Old = nil },
		func(c *core.Core) { c.Rem = nil },
		func(c *core.Core) { c.Grey = nil },
		func(c *core.Core) { c.Table = nil },
	} {
		for when := range 12 {
			c := rich(t)
			if when == 0 {
				cut(c)
			}
			begins(t, c)
			for range when - 1 {
				Step(c)
			}
			cut(c)
			if c.Phase != api.Idle {
				finish(t, c)
			}
		}
	}
}

// Wherever the cursor is, whatever stands on Grey, and whichever parity there is, each call ends.
func TestWrongNumbers(t *testing.T) {
	for _, n := range append([]int{2, 3, 4, 5, 40, 41, 42, 80, 81, 82, 90, 144, 145}, far...) {
		for phase := range 3 {
			c := rich(t)
			c.Grey.Put([]int{n, n, n})
			c.Look = n
			begins(t, c)
			c.Look, c.Phase = n, phase
			if phase != api.Idle {
				finish(t, c)
			}
			c = rich(t)
			c.Parity = n
			begins(t, c)
			same(t, "Parity", c.Parity == 0 || c.Parity == 1, true)
			c.Parity = n
			finish(t, c)
		}
	}
}

// In phase Idle, and in what is no phase, there are no bits; in what is no phase none begins.
func TestStepOfNothing(t *testing.T) {
	for _, phase := range append([]int{api.Idle, 3, 7}, far...) {
		if phase == api.Marks || phase == api.Sweep {
			continue
		}
		for _, c := range []*core.Core{fresh(t, plain()), rich(t)} {
			c.Phase = phase
			still(t, c, "Step and Run", func() {
				work, more := Step(c)
				same(t, "Step", work, 0)
				same(t, "more", more, false)
				for _, n := range append([]int{1, 99}, far...) {
					same(t, "Run", Run(c, n), 0)
				}
				if phase != api.Idle {
					same(t, "Start", Start(c), false)
				}
			})
		}
	}
}

// Where the objects of a rich heap are, all of one reference and one scalar.
const (
	elder = 81 // old, held, refers to heir
	heir  = 85 // old, refers to child
	waste = 89 // old, nothing refers to it, and it refers to junk
	junk  = 93 // old, waste alone refers to it
	child = 41 // young, refers to elder
	lone  = 45 // young, held, refers to kin
	kin   = 49 // young, lone alone refers to it; it refers to heir
	gone  = 53 // young, nothing refers to it; it refers to junk
)

// rich is a heap of each kind of object: handle 0 holds elder, 1 and 2 hold lone, the others nothing.
func rich(t *testing.T) *core.Core {
	t.Helper()
	c := fresh(t, plain())
	for h := range 4 {
		makes(t, c, h, 1, 1)
		is(t, c.Write(h, 0, uint64(100+h)), api.OK)
	}
	sets(t, c, 0, 0, 1)
	sets(t, c, 2, 0, 3)
	ages(t, c, 2)
	ages(t, c, 1) // the second half is filled
	same(t, "child", makes(t, c, 4, 1, 1), child)
	sets(t, c, 4, 0, 0)
	sets(t, c, 1, 0, 4)
	same(t, "lone", makes(t, c, 5, 1, 1), lone)
	same(t, "kin", makes(t, c, 4, 1, 1), kin)
	sets(t, c, 5, 0, 4)
	sets(t, c, 4, 0, 1)
	same(t, "gone", makes(t, c, 4, 1, 1), gone)
	sets(t, c, 4, 0, 3)
	is(t, c.Copy(1, 5), api.OK)
	is(t, c.Copy(2, 5), api.OK)
	clears(t, c, 3, 4, 5)
	lists(t, "handles", c.Table.All(), elder, lone, lone, 0, 0, 0)
	lists(t, "what is old", starts(c), elder, heir, waste, junk)
	return c
}

// Each handle's object is found, and nothing else is changed.
func TestStart(t *testing.T) {
	for parity := range 2 {
		c := rich(t)
		if parity == 1 {
			begins(t, c)
			finish(t, c)
			is(t, c.Clear(0), api.OK)
			is(t, c.Copy(3, 1), api.OK)
			is(t, c.Get(4, 3, 0), api.OK) // kin
		}
		ahead := see(c)
		begins(t, c)
		same(t, "Parity", c.Parity, 1-parity)
		want := []int{elder, lone}
		if parity == 1 {
			want = []int{lone, kin}
		}
		are(t, c, colour{1 - parity, true}, want...)
		lists(t, "Grey", c.Grey.All(), want...)
		behind := see(c)
		for _, at := range want {
			behind.Words[at] = ahead.Words[at]
		}
		lists(t, "words", ints(behind.Words), ints(ahead.Words)...)
		behind.Words, behind.Grey = ahead.Words, ahead.Grey
		behind.Rest.Parity, behind.Rest.Phase = parity, api.Idle
		alike(t, "Start", behind, ahead)
		for c.Phase != api.Idle {
			still(t, c, "Start, amid a cycle", func() { same(t, "Start", Start(c), false) })
			Step(c)
		}
		same(t, "Majors", c.Done.Majors, parity+1)
	}
}

func ints(list []uint64) []int {
	var other []int
	for _, w := range list {
		other = append(other, int(w))
	}
	return other
}

// An empty heap's cycle has no bit.
func TestEmpty(t *testing.T) {
	bare := plain()
	bare.Pages, bare.MajorAt = 0, 0
	for _, x := range []api.Config{plain(), bare} {
		c := fresh(t, x)
		for n := range 3 {
			begins(t, c)
			same(t, "Parity", c.Parity, 1-n%2)
			sweeps(t, c)
			ends(t, c)
			same(t, "Stats", c.Stats(), api.Stats{Majors: n + 1, Free: x.Pages * x.Page})
			same(t, "Look", c.Look, -1)
		}
	}
}

// Bit by bit: each looks at one thing, and when all are done what was held is there, and of what is old nothing else.
func TestBits(t *testing.T) {
	c := rich(t)
	ahead := see(c)
	begins(t, c)
	steps(t, c, 4) // lone
	are(t, c, colour{1, false}, lone)
	are(t, c, colour{1, true}, elder, kin)
	are(t, c, colour{0, false}, heir, child, waste, junk, gone)
	lists(t, "Grey", c.Grey.All(), elder, kin)
	steps(t, c, 4) // kin
	are(t, c, colour{1, true}, elder, heir)
	are(t, c, colour{1, false}, lone, kin)
	steps(t, c, 4) // heir
	are(t, c, colour{1, true}, elder, child)
	steps(t, c, 4) // child, which refers to what is found
	lists(t, "Grey", c.Grey.All(), elder)
	steps(t, c, 4) // elder likewise
	are(t, c, colour{1, false}, lone, kin, heir, child, elder)
	are(t, c, colour{0, false}, waste, junk, gone)
	lists(t, "what is old", starts(c), elder, heir, waste, junk)
	sweeps(t, c)
	page, ok := c.Old.Pending()
	same(t, "Pending", page == 0 && ok, true)
	lists(t, "what is old", starts(c), elder, heir, waste, junk)
	steps(t, c, 16)
	lists(t, "what is old", starts(c), elder, heir)
	_, ok = c.Old.Pending()
	same(t, "Pending", ok, false)
	ends(t, c)
	same(t, "Stats", c.Stats(), api.Stats{Allocs: 8, Words: 32, Promoted: 16, Minors: 3, Majors: 1, Young: 16, Old: 8, Free: 56})
	lists(t, "handles", c.Table.All(), ahead.Table...)
	same(t, "Row and the rest", [5]int{len(c.Row), c.Scan, c.Copied, c.Look, c.Rem.Len()}, [5]int{0, ahead.Rest.Scan, 0, -1, ahead.Rem[1]})
}

// What is of use when the cycle begins, or comes to be since, stays; what is of none goes with the next one that begins.
func TestWhatGoes(t *testing.T) {
	c := rich(t)
	begins(t, c)
	clears(t, c, 0, 1, 2)
	finish(t, c)
	lists(t, "what is old", starts(c), elder, heir)
	begins(t, c)
	sweeps(t, c)
	steps(t, c, 8)
	lists(t, "what is old", starts(c))
	same(t, "Free", c.Old.Free(), 4)
	ends(t, c)
	c = rich(t)
	is(t, c.Get(5, 0, 0), api.OK) // heir
	begins(t, c)
	clears(t, c, 0)
	is(t, c.Get(3, 5, 0), api.OK) // child is found by that
	are(t, c, colour{1, true}, child)
	clears(t, c, 1, 2, 3, 5)
	finish(t, c)
	lists(t, "what is old", starts(c), elder, heir)
	are(t, c, colour{1, false}, elder, heir, child)
}

// What is made while a cycle goes on is found, whatever it is linked to.
func TestWhatIsMadeMeanwhile(t *testing.T) {
	for n := 0; ; n++ {
		c := rich(t)
		begins(t, c)
		for range n {
			Step(c)
		}
		phase := c.Phase
		at := makes(t, c, 4, 1, 0)
		are(t, c, colour{c.Parity, false}, at)
		sets(t, c, 4, 0, 0) // elder
		clears(t, c, 0)
		if phase != api.Idle {
			finish(t, c)
		}
		is(t, c.Get(0, 4, 0), api.OK)
		same(t, "elder", holds(t, c, 0), elder)
		is(t, c.Get(0, 0, 0), api.OK)
		same(t, "heir", holds(t, c, 0), heir)
		lists(t, "what is old", starts(c), elder, heir)
		if phase == api.Idle {
			break
		}
	}
}

// A ring of what nothing holds goes; one that is held stays a ring; what refers to itself is no bit more.
func TestRings(t *testing.T) {
	for held := range 2 {
		x := aged(1)
		x.Nursery = 64
		c := fresh(t, x)
		for h := range 6 {
			makes(t, c, h, 2, 1)
		}
		for h := range 6 {
			sets(t, c, h, 0, (h+1)%6)
			sets(t, c, h, 1, h)
		}
		ages(t, c, 1)
		clears(t, c, 1, 2, 3, 4, 5)
		if held == 0 {
			clears(t, c, 0)
		}
		begins(t, c)
		for range 6 * held {
			steps(t, c, 5)
		}
		sweeps(t, c)
		for range 3 {
			steps(t, c, 10)
		}
		ends(t, c)
		same(t, "Used", c.Old.Used(), 36*held)
		if held == 1 {
			for range 6 {
				is(t, c.Get(0, 0, 0), api.OK)
			}
			same(t, "round", holds(t, c, 0), starts(c)[0])
		}
	}
}

// Both cycles go on at once, the other one's bits at each place between this one's: what is held stays.
func TestBothCycles(t *testing.T) {
	for times := 1; times < 6; times++ {
		for ahead := range 12 {
			c := rich(t)
			begins(t, c)
			for range ahead {
				Step(c)
			}
			same(t, "minor's Start", minor.Start(c), true)
			for c.Phase != api.Idle || c.Moving {
				for range times {
					minor.Step(c)
				}
				Step(c)
			}
			lists(t, "what is old", starts(c), elder, heir)
			same(t, "what is young", c.Young.Used(), 12)
			for _, step := range []struct{ to, from, want int }{{3, 0, heir}, {4, 3, 0}, {3, 4, elder}, {4, 1, 0}, {3, 4, heir}} {
				is(t, c.Get(step.to, step.from, 0), api.OK)
				if at := holds(t, c, step.to); step.want > 0 {
					same(t, "what is old", at, step.want)
				} else {
					same(t, "is it young", c.Young.In(at), true)
				}
			}
		}
	}
}
