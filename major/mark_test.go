package major

import (
	"slices"
	"testing"

	"tilth/api"
	"tilth/class"
	"tilth/conf"
	"tilth/core"
	"tilth/minor"
)

// A bit of Marks: an object on Grey is not Grey any more, and all that it refers to is found; its scalars are nothing.
func TestObject(t *testing.T) {
	c := fresh(t, plain())
	makes(t, c, 1, 1, 0)
	makes(t, c, 2, 0, 1)
	ages(t, c, 2)
	makes(t, c, 0, 5, 1)
	young, waste := makes(t, c, 3, 1, 0), makes(t, c, 4, 0, 0)
	sets(t, c, 3, 0, 4)
	for n, h := range []int{1, 5, 3, 0, 3} {
		sets(t, c, 0, n, h)
	}
	at, old := holds(t, c, 0), holds(t, c, 1)
	is(t, c.Write(0, 0, uint64(holds(t, c, 2))), api.OK)
	clears(t, c, 1, 2, 3, 4)
	begins(t, c)
	lists(t, "Grey", c.Grey.All(), at)
	steps(t, c, 8)
	lists(t, "Grey", c.Grey.All(), old, young)
	are(t, c, colour{1, true}, old, young)
	are(t, c, colour{1, false}, at)
	are(t, c, colour{0, false}, 85, waste)
	same(t, "the head", headOf(t, c, at), api.Head{Size: 6, Ptrs: 5, Parity: 1})
	steps(t, c, 3)
	are(t, c, colour{1, true}, waste)
	steps(t, c, 2)
	steps(t, c, 3)
	sweeps(t, c)
	are(t, c, colour{1, false}, at, old, young, waste)
	finish(t, c)
	lists(t, "what is old", starts(c), old)
}

// What was moved since is looked at where it is now, and what it refers to is found where that is.
func TestWhatWasMoved(t *testing.T) {
	c := rich(t)
	begins(t, c)
	minor.Start(c)
	at := holds(t, c, 1)
	same(t, "was it moved", at != lone, true)
	lists(t, "Grey", c.Grey.All(), elder, lone)
	was := headOf(t, c, lone)
	steps(t, c, 4)
	same(t, "the head that was left", headOf(t, c, lone), was)
	are(t, c, colour{1, false}, at)
	are(t, c, colour{1, true}, kin) // it was not moved yet
	for c.Now(kin) == kin {
		minor.Step(c)
	}
	are(t, c, colour{1, true}, c.Now(kin))
	lists(t, "Grey", c.Grey.All(), elder, kin)
	is(t, c.Get(4, 0, 0), api.OK) // heir
	steps(t, c, 4)                // which has no room on the stack, or came first
	for c.Phase == api.Marks {
		Step(c)
	}
	finish(t, c)
	lists(t, "what is old", starts(c), elder, heir)
}

// What was looked at ahead of its turn is no bit that finds anything anew.
func TestWhatIsNotGrey(t *testing.T) {
	c := rich(t)
	begins(t, c)
	heads(t, c, lone, func(h *api.Head) { h.Grey = false })
	steps(t, c, 4)
	lists(t, "Grey", c.Grey.All(), elder)
	are(t, c, colour{0, false}, kin)
}

// roomy is a heap with room for one on the stack, and for something large: halves from 1 and 101 on, pages from 201 on.
func roomy() api.Config {
	return api.Config{Handles: 12, Nursery: 100, Pages: 8, Page: 16, Card: 8, Buffer: 1, Stack: 1, Tenure: 2, Largest: 20}
}

// links: handles from first on hold objects with so many scalars, of which each refers to an object of its own.
func links(t *testing.T, c *core.Core, first int, scalars ...int) {
	t.Helper()
	for i, n := range scalars {
		makes(t, c, first+i, 1, n)
		makes(t, c, 0, 0, n)
		sets(t, c, first+i, 0, 0)
	}
	clears(t, c, 0)
}

// scattered is a heap in which handles 1 to 6 hold old ones, a large one too, and young ones; amid a minor cycle 7 holds
// one that was made since, and the last one of the list was not moved.
func scattered(t *testing.T, moving bool) (c *core.Core, places []int) {
	t.Helper()
	c = fresh(t, roomy())
	links(t, c, 1, 0, 19, 4)
	ages(t, c, 2)
	links(t, c, 4, 3, 2, 1)
	var stays []int
	if moving {
		stays = append(stays, holds(t, c, 6))
		clears(t, c, 6)
		same(t, "minor's Start", minor.Start(c), true)
		links(t, c, 7, 1)
	}
	for _, at := range c.Table.All() {
		if at != 0 {
			places = append(places, at)
		}
	}
	same(t, "how many are old", len(starts(c)), 6)
	return c, append(places, stays...)
}

// When none is on the stack, and something is Lost, all is looked through: no more bits than pages, and one.
func TestLookThrough(t *testing.T) {
	for n, moving := range []bool{false, true} {
		c, grey := scattered(t, moving)
		same(t, "how many", len(grey), 6+n)
		left := c.Young.Left()
		keep := makes(t, c, 0, 0, 0)
		clears(t, c, 1, 2, 3, 4, 5, 6, 7)
		begins(t, c)
		lists(t, "Grey", c.Grey.All(), keep)
		for _, at := range grey {
			c.Mark(at)
		}
		are(t, c, colour{1, true}, grey...)
		steps(t, c, 2)
		through := 0
		for rounds := 0; c.Phase == api.Marks; {
			if c.Grey.Len() == 0 {
				through++
				if c.Grey.Lost() && (c.Look < 0 || c.Look >= c.C.Pages) {
					rounds++
				}
			}
			steps(t, c, max(c.Young.Used()+left, c.C.Page, c.C.Largest+api.Extra))
			if most := rounds*(c.C.Pages+1) + 1; through > most {
				t.Fatalf("%d bits in %d rounds", through, rounds)
			}
		}
		same(t, "was all looked through", through > c.C.Pages, true)
		same(t, "Lost", c.Grey.Lost(), false)
		same(t, "Look", c.Look, -1)
		are(t, c, colour{1, false}, grey...)
		for _, at := range grey {
			are(t, c, colour{1, false}, fieldOf(t, c, at, 0))
		}
		finish(t, c)
		same(t, "how many are old", len(starts(c)), 6)
	}
}

// What was moved away is not looked through where it was: it is where it is now.
func TestLookThroughElders(t *testing.T) {
	c, _ := scattered(t, false)
	was := []int{holds(t, c, 4), holds(t, c, 5), holds(t, c, 6)}
	to := []int{fieldOf(t, c, was[0], 0), fieldOf(t, c, was[1], 0), fieldOf(t, c, was[2], 0)}
	begins(t, c)
	are(t, c, colour{1, true}, was...)
	minor.Start(c)
	clears(t, c, 1, 2, 3, 4, 5, 6)
	now := []int{c.Now(was[0]), c.Now(was[1]), c.Now(was[2])}
	are(t, c, colour{1, true}, now...)
	for c.Phase == api.Marks {
		steps(t, c, 2*c.C.Nursery)
	}
	are(t, c, colour{1, true}, was...)
	are(t, c, colour{1, false}, now...)
	are(t, c, colour{1, false}, to...)
}

// The nursery is looked through first: what a minor cycle moves to a page behind that was looked at, wherever the page is.
func TestPromotedAmidALookThrough(t *testing.T) {
	for stop := range 14 {
		c := fresh(t, roomy())
		makes(t, c, 2, 0, 1)
		ages(t, c, 2)
		old := holds(t, c, 2)
		makes(t, c, 1, 0, 0)
		makes(t, c, 4, 1, 1)
		ages(t, c, 1)
		sets(t, c, 4, 0, 2)
		clears(t, c, 2)
		begins(t, c)
		lists(t, "Grey", c.Grey.All(), holds(t, c, 1))
		same(t, "Lost", c.Grey.Lost(), true)
		are(t, c, colour{1, true}, holds(t, c, 4))
		are(t, c, colour{0, false}, old)
		for range stop {
			Step(c)
		}
		ages(t, c, 1)
		same(t, "is it old", headOf(t, c, holds(t, c, 4)).Old, true)
		if c.Phase != api.Idle {
			finish(t, c)
		}
		same(t, "is what it refers to there", slices.Contains(starts(c), old), true)
	}
}

// tree: a handle holds an object of three references to such ones, so many deep; it takes the handles behind it, too.
func tree(t *testing.T, c *core.Core, h, depth int) {
	t.Helper()
	makes(t, c, h, 3, 0)
	for n := range 3 {
		if depth > 1 {
			tree(t, c, h+1, depth-1)
			sets(t, c, h, n, h+1)
		}
	}
	clears(t, c, h+1)
}

// What is lost while all is looked through is looked for anew, till nothing is.
func TestLostAgain(t *testing.T) {
	for _, stack := range []int{1, 2, 3, 50} {
		for _, old := range []int{0, 1} {
			x := roomy()
			x.Nursery, x.Pages, x.Stack, x.Tenure = 300, 30, stack, 1
			c := fresh(t, x)
			tree(t, c, 0, 4)
			ages(t, c, old)
			waste := makes(t, c, 1, 3, 0)
			ages(t, c, old)
			waste = max(waste, holds(t, c, 1))
			clears(t, c, 1)
			begins(t, c)
			rounds := 0
			for c.Phase == api.Marks {
				was := c.Grey.Lost()
				steps(t, c, 2*c.C.Nursery)
				if was && c.Look == 0 {
					rounds++
				}
			}
			if (rounds == 0) != (stack == 50) {
				t.Fatalf("Stack %d: %d rounds", stack, rounds)
			}
			are(t, c, colour{0, false}, waste)
			finish(t, c)
			same(t, "Used", c.Old.Used(), 40*class.Cell(x.Page, 5)*old)
			if old == 0 {
				same(t, "how many were found", 40, len(found(t, c)))
			}
		}
	}
}

// found: what stands in the half that is filled, and has the core's parity.
func found(t *testing.T, c *core.Core) []int {
	t.Helper()
	var list []int
	begin, _ := c.Young.Begin()
	for at := begin; at < begin+c.Young.Used(); {
		h := headOf(t, c, at)
		if h.Parity == c.Parity {
			list = append(list, at)
		}
		at += h.Size + api.Extra
	}
	return list
}

// A bit asks for few words for its work, also where little is on the stack and much is looked through.
func TestHowManyWords(t *testing.T) {
	for _, largest := range []int{0, 1, 8, 64} {
		for _, stack := range []int{1, 256} {
			x := api.Config{Handles: 64, Nursery: 4096, Pages: 64, Page: 16, Card: 16, Stack: stack, Tenure: 1, Largest: largest, Major: 64}
			c := fresh(t, x)
			for h := 0; c.Make(h%64, largest, 0) == api.OK; h++ {
				for n := range largest {
					sets(t, c, h%64, n, (h*n+n*n+h/2)%64)
				}
			}
			begins(t, c)
			for c.Phase != api.Idle {
				asked := c.Arena.Count()
				Run(c, (largest+api.Extra)*x.Major)
				if asked = c.Arena.Count() - asked; asked > conf.Most(x, largest) {
					t.Fatalf("Largest %d: %d words", largest, asked)
				}
			}
		}
	}
}
