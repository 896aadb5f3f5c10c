package card

import (
	"math"
	"testing"

	"tilth/api"
)

const most = api.MaxWords

// far is numbers that are neither places nor cards of any table.
var far = []int{math.MinInt, math.MinInt + 1, math.MinInt32, -1, 3 * most, math.MaxInt32, math.MaxInt - 1, math.MaxInt}

// marks: Mark answers so at each of these places.
func marks(t *testing.T, c *Table, want bool, places ...int) {
	t.Helper()
	for _, at := range places {
		if c.Mark(at) != want {
			t.Fatalf("Mark(%d): %v", at, !want)
		}
	}
}

// clears: Clear answers so of each of these cards.
func clears(t *testing.T, c *Table, want bool, cards ...int) {
	t.Helper()
	for _, card := range cards {
		if c.Clear(card) != want {
			t.Fatalf("Clear(%d): %v", card, !want)
		}
	}
}

// span is a row of places, to not among them.
type span struct{ from, to int }

// marked: Marked is true at just these places, all around the space and far from it.
func marked(t *testing.T, c *Table, around span, want ...span) {
	t.Helper()
	places := far
	for at := around.from - 5; at < around.to+5; at++ {
		places = append(places, at)
	}
	for _, at := range places {
		in := false
		for _, s := range want {
			in = in || s.from <= at && at < s.to
		}
		if c.Marked(at) != in {
			t.Fatalf("Marked(%d): %v", at, !in)
		}
	}
}

// first: First comes to the card, -1 for none.
func first(t *testing.T, c *Table, card, want int) {
	t.Helper()
	if n, ok := c.First(card); n != max(want, 0) || ok != (want >= 0) {
		t.Fatalf("First(%d): %d, %v, not %d", card, n, ok, want)
	}
}

func part(t *testing.T, c *Table, card int, want span) {
	t.Helper()
	if from, to := c.Part(card); from != want.from || to != want.to {
		t.Fatalf("Part(%d): %d, %d, not %v", card, from, to, want)
	}
}

func count(t *testing.T, c *Table, want int) {
	t.Helper()
	if n := c.Count(); n != want {
		t.Fatalf("Count: %d, not %d", n, want)
	}
}

func TestNewTakesTheNearest(t *testing.T) {
	for _, c := range []struct {
		from, words, card int
		whole, first      span // the space, and what its first mark stands for
		last              int  // the last mark
	}{
		{50, 22, 8, span{50, 72}, span{50, 58}, 2},
		{50, 24, 8, span{50, 74}, span{50, 58}, 2},
		{50, 25, 8, span{50, 75}, span{50, 58}, 3},
		{0, 1, 1, span{0, 1}, span{0, 1}, 0},
		{-1, 5, 0, span{0, 5}, span{0, 1}, 4},
		{math.MinInt, 5, math.MinInt, span{0, 5}, span{0, 1}, 4},
		{3, 5, -1, span{3, 8}, span{3, 4}, 4},
		{3, 5, 5, span{3, 8}, span{3, 8}, 0},
		{3, 5, 6, span{3, 8}, span{3, 8}, 0},
		{3, 5, most, span{3, 8}, span{3, 8}, 0},
		{3, 5, math.MaxInt, span{3, 8}, span{3, 8}, 0},
		{most - 1, 2, 1, span{most - 1, most + 1}, span{most - 1, most}, 1},
		{most, 2, 1, span{most, most + 2}, span{most, most + 1}, 1},
		{most + 1, 2, 1, span{most, most + 2}, span{most, most + 1}, 1},
		{7, most - 1, most - 1, span{7, most + 6}, span{7, most + 6}, 0},
		{7, most, most - 1, span{7, most + 7}, span{7, most + 6}, 1},
		{7, most, most, span{7, most + 7}, span{7, most + 7}, 0},
		{7, most + 1, most + 1, span{7, most + 7}, span{7, most + 7}, 0},
		{7, math.MaxInt, 1, span{7, most + 7}, span{7, 8}, most - 1},
		{math.MaxInt, math.MaxInt, math.MaxInt, span{most, 2 * most}, span{most, 2 * most}, 0},
		{math.MaxInt, math.MaxInt, math.MinInt, span{most, 2 * most}, span{most, most + 1}, most - 1},
	} {
		x := New(c.from, c.words, c.card)
		if x == nil {
			t.Fatalf("%v: nil", c)
		}
		count(t, x, 0)
		first(t, x, math.MinInt, -1)
		part(t, x, 0, c.first)
		part(t, x, c.last+1, span{})
		marks(t, x, false, far...)
		marks(t, x, false, c.whole.from-1, c.whole.to)
		marks(t, x, true, c.whole.to-1)
		first(t, x, 0, c.last)
		if _, to := x.Part(c.last); to != c.whole.to {
			t.Errorf("%v: the last mark's part ends at %d", c, to)
		}
		marks(t, x, true, c.whole.from)
		first(t, x, 0, 0)
		clears(t, x, true, c.last)
	}
}

func TestNewWithoutWords(t *testing.T) {
	for _, from := range []int{math.MinInt, -3, 0, 3, most, math.MaxInt} {
		for _, words := range []int{math.MinInt, -1, 0} {
			for _, card := range []int{math.MinInt, 0, 1, 8, most, math.MaxInt} {
				noMark(t, New(from, words, card))
			}
		}
	}
}

func TestNoTable(t *testing.T) {
	noMark(t, nil)
}

// noMark: whatever it is asked, it has none.
func noMark(t *testing.T, c *Table) {
	t.Helper()
	for _, n := range append([]int{-3, 0, 1, 2, 3, 4, most - 1, most, most + 1}, far...) {
		marks(t, c, false, n)
		marked(t, c, span{n, n})
		clears(t, c, false, n)
		first(t, c, n, -1)
		part(t, c, n, span{})
	}
	count(t, c, 0)
}

func TestMark(t *testing.T) {
	c, around := New(50, 22, 8), span{50, 72}
	marked(t, c, around)
	marks(t, c, true, 60)
	marked(t, c, around, span{58, 66})
	count(t, c, 1)
	marks(t, c, true, 58, 65, 60)
	marked(t, c, around, span{58, 66})
	count(t, c, 1)
	marks(t, c, true, 71)
	marked(t, c, around, span{58, 72})
	count(t, c, 2)
	marks(t, c, true, 50)
	marked(t, c, around, span{50, 72})
	count(t, c, 3)
}

func TestMarkOutside(t *testing.T) {
	c := New(50, 22, 8)
	marks(t, c, true, 57)
	marks(t, c, false, far...)
	marks(t, c, false, 0, 42, 49, 72, 73, 74, 80)
	marked(t, c, span{0, 80}, span{50, 58})
	count(t, c, 1)
}

// The last card has six places: the two that it lacks have no mark, though they would divide so.
func TestTheLastOneStandsForFewer(t *testing.T) {
	c := New(50, 22, 8)
	marks(t, c, false, 72, 73)
	count(t, c, 0)
	marks(t, c, true, 66)
	marked(t, c, span{50, 72}, span{66, 72})
	part(t, c, 2, span{66, 72})
}

func TestClear(t *testing.T) {
	c, around := New(50, 22, 8), span{50, 72}
	clears(t, c, false, 0, 1, 2)
	marks(t, c, true, 50, 58, 66)
	clears(t, c, true, 1)
	marked(t, c, around, span{50, 58}, span{66, 72})
	count(t, c, 2)
	clears(t, c, false, 1)
	clears(t, c, false, far...)
	clears(t, c, false, 3, 4, 50, 58, 66)
	count(t, c, 2)
	clears(t, c, true, 2, 0)
	marked(t, c, around)
	count(t, c, 0)
	marks(t, c, true, 59)
	marked(t, c, around, span{58, 66})
	clears(t, c, true, 1)
}

func TestFirst(t *testing.T) {
	c := New(50, 50, 5)
	for _, card := range append([]int{0, 5, 9, 10, 11}, far...) {
		first(t, c, card, -1)
	}
	marks(t, c, true, 65, 80, 99)
	for card, want := range []int{3, 3, 3, 3, 6, 6, 6, 9, 9, 9, -1, -1} {
		first(t, c, card, want)
	}
	for _, card := range far {
		if card < 0 {
			first(t, c, card, 3)
		} else {
			first(t, c, card, -1)
		}
	}
	clears(t, c, true, 3, 9)
	first(t, c, 0, 6)
	first(t, c, 7, -1)
	marks(t, c, true, 50)
	first(t, c, -1, 0)
	first(t, c, 0, 0)
	first(t, c, 1, 6)
}

func TestPart(t *testing.T) {
	c := New(50, 22, 8)
	for range 2 {
		for card, want := range []span{{50, 58}, {58, 66}, {66, 72}, {}, {}} {
			part(t, c, card, want)
		}
		for _, card := range append([]int{50, 58, 72}, far...) {
			part(t, c, card, span{})
		}
		marks(t, c, true, 50, 66) // what a mark stands for does not hang on whether it is set
	}
}

func TestTheGreatestTable(t *testing.T) {
	c := New(most, most, 1)
	for n := range most {
		marks(t, c, true, most+n)
	}
	count(t, c, most)
	marks(t, c, false, most-1, 2*most)
	part(t, c, most-1, span{2*most - 1, 2 * most})
	part(t, c, most, span{})
	for n := range most - 1 {
		clears(t, c, true, n)
	}
	first(t, c, 0, most-1)
	first(t, c, most-1, most-1)
	first(t, c, most, -1)
	count(t, c, 1)
}

func TestAskingChangesNothing(t *testing.T) {
	c := New(50, 22, 8)
	marks(t, c, true, 66)
	for range 3 {
		marked(t, c, span{50, 72}, span{66, 72})
		first(t, c, 0, 2)
		part(t, c, 0, span{50, 58})
		count(t, c, 1)
	}
}

func TestTablesLieApart(t *testing.T) {
	a, b := New(50, 22, 8), New(50, 22, 8)
	marks(t, a, true, 50)
	count(t, b, 0)
	marks(t, b, true, 66)
	clears(t, b, false, 0)
	marked(t, a, span{50, 72}, span{50, 58})
	marked(t, b, span{50, 72}, span{66, 72})
}
