package remset

import (
	"math"
	"testing"

	"tilth/api"
)

const most = api.MaxWords

// far is numbers that are places of no space.
var far = []int{math.MinInt, math.MinInt + 1, math.MinInt32, -1, 3 * most, math.MaxInt32, math.MaxInt - 1, math.MaxInt}

// told is what Next answers.
type told struct {
	from, to int
	part, ok bool
}

func place(at int) told {
	return told{at, at + 1, false, true}
}

func part(from, to int) told {
	return told{from, to, true, true}
}

// adds: Add answers so of each of these places.
func adds(t *testing.T, s *Set, want bool, places ...int) {
	t.Helper()
	for _, at := range places {
		if s.Add(at) != want {
			t.Fatalf("Add(%d): %v", at, !want)
		}
	}
}

func flips(t *testing.T, s *Set, want bool) {
	t.Helper()
	if s.Flip() != want {
		t.Fatalf("Flip: %v", !want)
	}
}

// counts: Left and Len, asked twice, as asking changes nothing.
func counts(t *testing.T, s *Set, left, size int) {
	t.Helper()
	for range 2 {
		if n := s.Left(); n != left {
			t.Fatalf("Left: %d, not %d", n, left)
		}
		if n := s.Len(); n != size {
			t.Fatalf("Len: %d, not %d", n, size)
		}
	}
}

// tells: Next comes to these, one by one.
func tells(t *testing.T, s *Set, list ...told) {
	t.Helper()
	for _, want := range list {
		var got told
		if got.from, got.to, got.part, got.ok = s.Next(); got != want {
			t.Fatalf("Next: %v, not %v", got, want)
		}
	}
}

// tellsNone: there is nothing to look at, however often it is asked for.
func tellsNone(t *testing.T, s *Set) {
	t.Helper()
	tells(t, s, told{}, told{}, told{})
}

// holds: there is nothing to look at, and these are beside that: they are turned and told.
func holds(t *testing.T, s *Set, list ...told) {
	t.Helper()
	counts(t, s, 0, len(list))
	tellsNone(t, s)
	flips(t, s, true)
	counts(t, s, len(list), 0)
	tells(t, s, list...)
	tellsNone(t, s)
	counts(t, s, 0, 0)
}

func TestNewIsEmpty(t *testing.T) {
	s := New(200, 40, 8, 2)
	counts(t, s, 0, 0)
	holds(t, s)
}

func TestNoSet(t *testing.T) {
	var s *Set
	for range 2 {
		adds(t, s, false, far...)
		adds(t, s, false, 0, 1, most)
		flips(t, s, false)
		tellsNone(t, s)
		counts(t, s, 0, 0)
	}
}

// A Set that nobody made has no space.
func TestZeroSet(t *testing.T) {
	s := new(Set)
	for range 2 {
		adds(t, s, false, far...)
		adds(t, s, false, 0, 1, most)
		holds(t, s)
	}
}

func TestTheSpaceIsTheNearest(t *testing.T) {
	for _, c := range []struct{ from, words, first, behind int }{
		{200, 40, 200, 240},
		{0, 1, 0, 1},
		{-1, 5, 0, 5},
		{math.MinInt, 5, 0, 5},
		{1, 5, 1, 6},
		{most - 1, 2, most - 1, most + 1},
		{most, 2, most, most + 2},
		{most + 1, 2, most, most + 2},
		{math.MaxInt, 2, most, most + 2},
		{7, most - 1, 7, most + 6},
		{7, most, 7, most + 7},
		{7, most + 1, 7, most + 7},
		{7, math.MaxInt, 7, most + 7},
		{math.MaxInt, math.MaxInt, most, 2 * most},
	} {
		for _, room := range []int{0, 9} { // whether places or cards are asked
			s := New(c.from, c.words, 1, room)
			adds(t, s, false, far...)
			adds(t, s, false, c.first-1, c.behind)
			counts(t, s, 0, 0)
			adds(t, s, true, c.first, c.behind-1)
			flips(t, s, true)
			if from, to, _, ok := s.Next(); from != c.first || to != c.first+1 || !ok {
				t.Fatalf("%v: Next: %d, %d, %v", c, from, to, ok)
			}
		}
	}
}

func TestNoWords(t *testing.T) {
	for _, from := range []int{math.MinInt, -3, 0, 3, most, math.MaxInt} {
		for _, words := range []int{math.MinInt, -1, 0} {
			for _, room := range []int{0, 4} {
				s := New(from, words, 8, room)
				adds(t, s, false, far...)
				adds(t, s, false, -3, 0, 1, 3, 4, most-1, most, most+1)
				holds(t, s)
			}
		}
	}
}

func TestCardsAreTheNearest(t *testing.T) {
	for _, c := range []struct{ card, words, to int }{
		{math.MinInt, 40, 31}, {-1, 40, 31}, {0, 40, 31}, {1, 40, 31}, {2, 40, 32}, {8, 40, 38},
		{39, 40, 69}, {40, 40, 70}, {41, 40, 70}, {most, 40, 70}, {most + 1, 40, 70}, {math.MaxInt, 40, 70},
		{most - 1, most, most + 29}, {most, most, most + 30}, {most + 1, most, most + 30},
	} {
		s := New(30, c.words, c.card, 0)
		adds(t, s, true, 30)
		holds(t, s, part(30, c.to))
	}
}

func TestRoomIsTheNearest(t *testing.T) {
	for _, c := range []struct{ asked, room int }{
		{math.MinInt, 0}, {-1, 0}, {0, 0}, {1, 1}, {2, 2}, {api.MaxBuffer, api.MaxBuffer}, {api.MaxBuffer + 1, api.MaxBuffer + 1},
		{most - 1, most - 1}, {most, most}, {most + 1, most}, {math.MaxInt, most},
	} {
		s := New(30, most, 16, c.asked)
		for n := range c.room {
			adds(t, s, true, 30+n)
		}
		counts(t, s, 0, c.room)
		adds(t, s, true, 50, 51)
		counts(t, s, 0, c.room+1)
		flips(t, s, true)
		for n := range c.room {
			tells(t, s, place(30+n))
		}
		tells(t, s, part(46, 62))
		tellsNone(t, s)
	}
}

func TestAddOutside(t *testing.T) {
	for room := range 3 {
		s := New(200, 38, 8, room)
		adds(t, s, false, far...)
		adds(t, s, false, 0, 1, 192, 199, 238, 239, 240, 248) // the last card would have two places more
		counts(t, s, 0, 0)
		holds(t, s)
	}
}

func TestPlacesStandInTheirOrder(t *testing.T) {
	s := New(200, 40, 8, 5)
	adds(t, s, true, 210, 205, 239, 200)
	holds(t, s, place(210), place(205), place(239), place(200))
}

// Add does not ask whether a place stands there: it stands there twice then.
func TestAPlaceTwice(t *testing.T) {
	s := New(200, 40, 8, 3)
	adds(t, s, true, 210, 210)
	holds(t, s, place(210), place(210))
	adds(t, s, true, 210, 210, 210, 210, 210)
	holds(t, s, place(210), place(210), place(210), part(208, 216))
}

func TestCardsBehindPlaces(t *testing.T) {
	s := New(200, 40, 8, 2)
	adds(t, s, true, 210, 205)
	counts(t, s, 0, 2)
	adds(t, s, true, 239)
	counts(t, s, 0, 3)
	adds(t, s, true, 201)
	counts(t, s, 0, 4)
	adds(t, s, true, 206, 200, 207, 232)
	holds(t, s, place(210), place(205), part(200, 208), part(232, 240))
}

func TestCardsAlone(t *testing.T) {
	s := New(50, 22, 8, 0)
	adds(t, s, true, 71, 50, 65, 66, 57, 58)
	holds(t, s, part(50, 58), part(58, 66), part(66, 72))
	adds(t, s, true, 60)
	holds(t, s, part(58, 66))
}

func TestFlipWaits(t *testing.T) {
	s := New(200, 40, 8, 1)
	adds(t, s, true, 210, 220, 230)
	flips(t, s, true)
	adds(t, s, true, 211)
	for left, want := range []told{place(210), part(216, 224), part(224, 232)} {
		counts(t, s, 3-left, 1)
		flips(t, s, false)
		counts(t, s, 3-left, 1)
		tells(t, s, want)
	}
	counts(t, s, 0, 1)
	flips(t, s, true)
	counts(t, s, 1, 0)
	flips(t, s, false)
	tells(t, s, place(211))
	flips(t, s, true)
	flips(t, s, true)
	counts(t, s, 0, 0)
	tellsNone(t, s)
}

// What is added while something is looked at has all the room of a new side, and is not told ahead of the next turn.
func TestSidesLieApart(t *testing.T) {
	s := New(200, 40, 8, 2)
	adds(t, s, true, 200, 201, 202, 210)
	flips(t, s, true)
	adds(t, s, true, 220, 203, 212, 230, 204)
	counts(t, s, 4, 5)
	tells(t, s, place(200))
	adds(t, s, true, 239)
	counts(t, s, 3, 6)
	tells(t, s, place(201), part(200, 208))
	adds(t, s, true, 205, 211)
	counts(t, s, 1, 6)
	tells(t, s, part(208, 216))
	holds(t, s, place(220), place(203), part(200, 208), part(208, 216), part(224, 232), part(232, 240))
}

// Next takes from what is looked at alone: the other side's room stays taken.
func TestNextMakesNoRoomBeside(t *testing.T) {
	s := New(200, 40, 8, 1)
	adds(t, s, true, 200)
	flips(t, s, true)
	adds(t, s, true, 201)
	tells(t, s, place(200))
	adds(t, s, true, 202)
	holds(t, s, place(201), part(200, 208))
}

func TestManyTurns(t *testing.T) {
	s := New(200, 40, 8, 2)
	for n := range 100 {
		at := 200 + n%40
		card := at - at%8
		adds(t, s, true, at, at, at)
		holds(t, s, place(at), place(at), part(card, card+8))
	}
}

func TestSetsLieApart(t *testing.T) {
	a, b := New(200, 40, 8, 1), New(200, 40, 8, 1)
	adds(t, a, true, 200, 210)
	counts(t, b, 0, 0)
	flips(t, a, true)
	adds(t, b, true, 220, 230)
	tells(t, a, place(200))
	counts(t, b, 0, 2)
	tells(t, a, part(208, 216))
	holds(t, b, place(220), part(224, 232))
	counts(t, a, 0, 0)
}
