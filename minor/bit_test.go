package minor

import (
	"reflect"
	"slices"
	"testing"

	"tilth/api"
	"tilth/core"
)

// family: handle 0 refers to what is to stay young, to what is to become old and to itself; it is of so many cycles.
func family(t *testing.T, c *core.Core, age int) (young, ripe int) {
	t.Helper()
	makes(t, c, 0, 4, 2)
	makes(t, c, 1, 0, 1)
	cycles(t, c, max(age-1, 0))
	if age > 0 {
		makes(t, c, 1, 0, 1)
		cycles(t, c, 1)
	}
	makes(t, c, 2, 0, 2)
	is(t, c.Write(2, 1, 22), api.OK)
	is(t, c.Write(1, 0, 11), api.OK)
	is(t, c.Write(0, 1, 1), api.OK) // a scalar is no reference, though it may be a place
	sets(t, c, 0, 0, 2)
	sets(t, c, 0, 2, 1)
	sets(t, c, 0, 3, 0)
	young, ripe = holds(t, c, 2), holds(t, c, 1)
	clears(t, c, 1, 2)
	return young, ripe
}

// followed: the references of what handle 0 holds were followed; what was young and to be old is so.
func followed(t *testing.T, c *core.Core, young, ripe int) {
	t.Helper()
	at := holds(t, c, 0)
	a, b := c.Now(young), c.Now(ripe)
	same(t, "what stays young", c.Young.In(a), true)
	same(t, "what does not is old", headOf(t, c, b).Old, true)
	lists(t, "references", []int{fieldOf(t, c, at, 0), fieldOf(t, c, at, 1), fieldOf(t, c, at, 2), fieldOf(t, c, at, 3)}, a, 0, b, at)
	lists(t, "scalars", []int{fieldOf(t, c, at, 4), fieldOf(t, c, at, 5), fieldOf(t, c, a, 1), fieldOf(t, c, b, 0)}, 0, 1, 22, 11)
	same(t, "does it stand in Row", slices.Contains(c.Row, b), true)
}

// A bit of Row: what became old in this cycle is Noted just if it refers to young ones then.
func TestRow(t *testing.T) {
	c := fresh(t, plain())
	young, ripe := family(t, c, 1)
	begins(t, c)
	at := holds(t, c, 0)
	lists(t, "Row", c.Row, at)
	steps(t, c, 8)
	followed(t, c, young, ripe)
	lists(t, "Row", c.Row, c.Now(ripe))
	same(t, "Noted", headOf(t, c, at).Noted, true)
	same(t, "Rem", [2]int{c.Rem.Left(), c.Rem.Len()}, [2]int{0, 1})
	steps(t, c, 3)
	lists(t, "Row", c.Row)
	same(t, "Noted", headOf(t, c, c.Now(ripe)).Noted, false)
	same(t, "Rem", [2]int{c.Rem.Left(), c.Rem.Len()}, [2]int{0, 1})
	finish(t, c)
	lists(t, "what is told next", told(t, c), at)
}

// What refers to what became old, too, or to nothing, is not Noted.
func TestRowWithoutYoungOnes(t *testing.T) {
	c := fresh(t, aged(1))
	makes(t, c, 0, 3, 1)
	makes(t, c, 1, 1, 0)
	sets(t, c, 0, 1, 1)
	sets(t, c, 1, 0, 0)
	makes(t, c, 2, 6, 0)
	clears(t, c, 1)
	begins(t, c)
	finish(t, c)
	for _, at := range c.Old.Starts(0, api.MaxWords) {
		same(t, "Noted", headOf(t, c, at).Noted, false)
	}
	same(t, "Rem", c.Rem.Len(), 0)
	same(t, "Stats", c.Stats(), api.Stats{Allocs: 3, Words: 17, Promoted: 17, Minors: 1, Old: 18, Free: 46})
}

// What was Noted since, ahead of its bit, is told once.
func TestRowThatIsNoted(t *testing.T) {
	c := fresh(t, aged(1))
	makes(t, c, 0, 2, 0)
	begins(t, c)
	makes(t, c, 1, 0, 0)
	sets(t, c, 0, 0, 1)
	same(t, "Rem", c.Rem.Len(), 1)
	steps(t, c, 4)
	same(t, "Rem", c.Rem.Len(), 1)
	same(t, "Noted", headOf(t, c, holds(t, c, 0)).Noted, true)
	finish(t, c)
	lists(t, "what is told next", told(t, c), 81)
}

// What stands in Row, and was freed since, is nothing to look at; nor is what else begins around there.
func TestRowOfWhatIsFree(t *testing.T) {
	for reused := range 2 {
		c := fresh(t, aged(1))
		makes(t, c, 0, 0, 0)
		makes(t, c, 1, 1, 1)
		makes(t, c, 2, 0, 3)
		sets(t, c, 1, 0, 2)
		clears(t, c, 2)
		begins(t, c)
		at := holds(t, c, 1)
		lists(t, "Row", c.Row, 81, at)
		clears(t, c, 0, 1)
		for _, gone := range c.Row {
			same(t, "Give", c.Old.Give(gone), true)
		}
		if reused == 1 { // a cell of 8 words, in whose midst the place is
			big, _ := c.Old.Take(8)
			same(t, "the cell", big, 81)
		}
		row, starts := slices.Clone(c.Row), c.Old.Starts(0, api.MaxWords)
		for range row {
			ahead := see(c)
			ahead.Rest.Row = ahead.Rest.Row[1:]
			steps(t, c, 0)
			if behind := see(c); !reflect.DeepEqual(ahead, behind) {
				t.Fatalf("it changes\n%+v to\n%+v", ahead, behind)
			}
		}
		ends(t, c)
		lists(t, "what is old", c.Old.Starts(0, api.MaxWords), starts...)
		same(t, "Young", c.Stats().Young, 0)
	}
}

// A place that is free, and taken anew in the same cycle, stands in Row twice: what is there is looked at.
func TestRowOfWhatIsTakenAnew(t *testing.T) {
	c := fresh(t, aged(1))
	makes(t, c, 0, 0, 1)
	makes(t, c, 1, 3, 1)
	makes(t, c, 2, 0, 2)
	is(t, c.Write(2, 0, 7), api.OK)
	sets(t, c, 1, 1, 2)
	makes(t, c, 3, 1, 0)
	sets(t, c, 3, 0, 1)
	clears(t, c, 1, 2, 0)
	makes(t, c, 0, 0, 4)
	begins(t, c)
	at := holds(t, c, 0)
	clears(t, c, 0)
	same(t, "Give", c.Old.Give(at), true)
	is(t, c.Get(1, 3, 0), api.OK)
	same(t, "the place", holds(t, c, 1), at)
	finish(t, c)
	kid := fieldOf(t, c, at, 1)
	same(t, "Old", headOf(t, c, kid).Old, true)
	same(t, "a scalar", fieldOf(t, c, kid, 0), 7)
}

// A bit of Rem is a place, or all that begins on a card, of what is Noted alone.
func TestRem(t *testing.T) {
	for most := range 2 {
		x := plain()
		x.Buffer = most
		c := fresh(t, x)
		young, ripe := family(t, c, 2)
		at := holds(t, c, 0)
		begins(t, c)
		lists(t, "Row", c.Row)
		same(t, "Rem", [2]int{c.Rem.Left(), c.Rem.Len()}, [2]int{1, 0})
		steps(t, c, 8)
		same(t, "Rem", [2]int{c.Rem.Left(), c.Rem.Len()}, [2]int{0, 1})
		followed(t, c, young, ripe)
		same(t, "Noted", headOf(t, c, at).Noted, true)
		finish(t, c)
		is(t, c.Set(0, 0, 5), api.OK) // from now on it refers to nothing that is young
		same(t, "Noted", headOf(t, c, at).Noted, true)
		begins(t, c)
		steps(t, c, 8)
		same(t, "Noted", headOf(t, c, at).Noted, false)
		same(t, "Rem", [2]int{c.Rem.Left(), c.Rem.Len()}, [2]int{0, 0})
		ends(t, c)
		makes(t, c, 1, 0, 0) // and it may be Noted anew
		sets(t, c, 0, 1, 1)
		same(t, "Noted", headOf(t, c, at).Noted, true)
		lists(t, "what is told next", told(t, c), at)
	}
}

// What Rem tells, and is not Noted, or none any more, or something else that was made there since, does not count.
func TestRemOfWhatDoesNotCount(t *testing.T) {
	for kind := range 6 {
		x := plain()
		x.Buffer = kind % 2
		c := fresh(t, x)
		makes(t, c, 0, 2, 0)
		cycles(t, c, 2)
		makes(t, c, 1, 0, 1)
		sets(t, c, 0, 0, 1)
		clears(t, c, 1)
		at := holds(t, c, 0)
		begins(t, c)
		switch kind / 2 {
		case 0:
			heads(t, c, at, func(h *api.Head) { h.Noted = false })
		case 1:
			clears(t, c, 0)
			same(t, "Give", c.Old.Give(at), true)
		case 2:
			heads(t, c, at, func(h *api.Head) { h.Noted = false })
			same(t, "Give", c.Old.Give(at), true)
			to, _ := c.Old.Take(4)
			same(t, "the place", to, at)
		}
		ahead := see(c)
		ahead.Rem[0] = 0
		steps(t, c, 0)
		if behind := see(c); !reflect.DeepEqual(ahead, behind) {
			t.Fatalf("%d: it changes\n%+v to\n%+v", kind, ahead, behind)
		}
		ends(t, c)
		same(t, "Young", c.Stats().Young, 0)
	}
}

// All that is Noted and begins on a card is one bit; what is not, or begins elsewhere, is none of it.
func TestCard(t *testing.T) {
	x := plain()
	x.Buffer, x.Page, x.Card, x.Nursery = 0, 32, 16, 60
	c := fresh(t, x)
	for h := range 6 { // the places are 121, 125, 129, 133, the next card's 137 and 141
		makes(t, c, h, 1, 1)
	}
	cycles(t, c, 2)
	lists(t, "handles", c.Table.All(), 121, 125, 129, 133, 137, 141)
	clears(t, c, 1, 4)
	noted := []int{0, 2, 3, 5}
	for _, h := range noted {
		at := holds(t, c, h)
		makes(t, c, 1, 0, h)
		sets(t, c, h, 0, 1)
		same(t, "Noted", headOf(t, c, at).Noted, true)
	}
	clears(t, c, 1)
	heads(t, c, 133, func(h *api.Head) { h.Noted = false })
	begins(t, c)
	same(t, "Rem", c.Rem.Left(), 2)
	steps(t, c, 8)
	same(t, "Rem", [2]int{c.Rem.Left(), c.Rem.Len()}, [2]int{1, 1})
	for i, at := range []int{121, 129, 133, 141} {
		to := fieldOf(t, c, at, 0)
		same(t, "did it leave", c.Young.In(to), i < 2)
		same(t, "Noted", headOf(t, c, at).Noted, i != 2)
	}
	steps(t, c, 4)
	same(t, "Rem", [2]int{c.Rem.Left(), c.Rem.Len()}, [2]int{0, 2})
	finish(t, c)
	same(t, "Young", c.Stats().Young, 2+4+7)
	lists(t, "what is told next", told(t, c), 121, 129, 141)
}

// The cursor goes from object to object, and meets those that come behind it meanwhile.
func TestHalf(t *testing.T) {
	c := fresh(t, aged(3))
	young, _ := family(t, c, 0)
	makes(t, c, 3, 0, 0)
	begins(t, c)
	at := holds(t, c, 0)
	same(t, "the cursor", c.Scan, 41)
	lists(t, "places", []int{at, holds(t, c, 3)}, 41, 49)
	steps(t, c, 8)
	same(t, "the cursor", c.Scan, 49)
	kid, other := c.Now(young), c.Now(fieldOf(t, c, at, 2))
	lists(t, "references", []int{fieldOf(t, c, at, 0), fieldOf(t, c, at, 1), fieldOf(t, c, at, 2), fieldOf(t, c, at, 3)}, kid, 0, other, at)
	lists(t, "places", []int{kid, other}, 51, 55)
	same(t, "Rem", c.Rem.Len(), 0)
	same(t, "Noted", headOf(t, c, at).Noted, false)
	same(t, "the one that is made meanwhile", makes(t, c, 5, 2, 0), 58)
	sets(t, c, 5, 0, 0)
	for _, cursor := range []int{51, 55, 58, 62} {
		steps(t, c, cursor-c.Scan)
		same(t, "the cursor", c.Scan, cursor)
	}
	ends(t, c)
	same(t, "a reference", fieldOf(t, c, 58, 0), at)
	same(t, "Young", c.Stats().Young, 8+2+4+3+4)
}

// What finds no room among what is old goes on as something young, and is looked at by the cursor.
func TestWithoutPages(t *testing.T) {
	x := aged(1)
	x.Pages, x.MajorAt = 0, 0
	c := fresh(t, x)
	makes(t, c, 0, 1, 0)
	makes(t, c, 1, 1, 1)
	sets(t, c, 0, 0, 1)
	sets(t, c, 1, 0, 0)
	clears(t, c, 1)
	for n := range 10 {
		cycles(t, c, 1)
		at := holds(t, c, 0)
		to := fieldOf(t, c, at, 0)
		same(t, "a reference", fieldOf(t, c, to, 0), at)
		same(t, "the head", headOf(t, c, to), api.Head{Size: 2, Ptrs: 1, Age: min(n+1, 7)})
	}
	same(t, "Stats", c.Stats(), api.Stats{Allocs: 2, Words: 7, Minors: 10, Young: 7})
}

// A nursery that is full of what is held is emptied likewise.
func TestFull(t *testing.T) {
	for _, pages := range []int{0, 1, 4} {
		x := aged(1)
		x.Pages, x.MajorAt, x.Handles = pages, 0, 8
		c := fresh(t, x)
		makes(t, c, 0, 6, 0)
		for n := range 6 {
			makes(t, c, 1, 1, 1+min(n/4, 1))
			sets(t, c, 1, 0, 0)
			sets(t, c, 0, n, 1)
		}
		makes(t, c, 1, 0, 4)
		same(t, "Room", c.Young.Room(), 0)
		is(t, c.Make(2, 0, 0), api.ErrRoom)
		begins(t, c)
		if pages == 0 {
			is(t, c.Make(2, 0, 0), api.ErrRoom)
		}
		finish(t, c)
		s := c.Stats()
		same(t, "words", s.Young+s.Promoted, 40)
		same(t, "Promoted", s.Promoted, []int{0, 8, 40}[min(pages, 2)])
	}
}

// At the end of a cycle amid a major one the places on Grey are those where the objects are now; those that nothing holds go.
func TestGrey(t *testing.T) {
	for lost := range 2 {
		x := aged(1)
		x.Stack, x.Pages = 7, 1
		c := fresh(t, x)
		makes(t, c, 0, 1, 5)
		cycles(t, c, 1)
		at := holds(t, c, 0)
		makes(t, c, 1, 0, 6)
		makes(t, c, 2, 0, 5)
		makes(t, c, 3, 1, 0)
		places := []int{at}
		marks(c)
		for h := range 4 {
			c.Mark(holds(t, c, h))
			places = append(places, holds(t, c, h))
		}
		lists(t, "Grey", c.Grey.All(), places[1:]...)
		sets(t, c, 3, 0, 3)
		clears(t, c, 2)
		begins(t, c)
		makes(t, c, 4, 0, 0)
		heads(t, c, holds(t, c, 4), func(h *api.Head) { h.Parity = 1 - h.Parity })
		c.Mark(holds(t, c, 4))
		c.Grey.Push(places[4])
		if lost == 1 {
			c.Grey.Push(places[3])
			c.Grey.Push(places[3])
		}
		finish(t, c)
		lists(t, "Grey", c.Grey.All(), at, holds(t, c, 1), holds(t, c, 3), holds(t, c, 4), holds(t, c, 3))
		same(t, "Lost", c.Grey.Lost(), lost == 1)
		same(t, "is one old", headOf(t, c, holds(t, c, 1)).Old, true)
		for _, h := range []int{0, 1, 3, 4} {
			x := headOf(t, c, holds(t, c, h))
			same(t, "Grey", x.Grey, true)
			same(t, "Parity", x.Parity, c.Parity)
		}
		same(t, "phase", c.Phase, api.Marks)
	}
}
