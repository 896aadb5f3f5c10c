package bump

import (
	"math"
	"testing"

	"tilth/api"
)

// takes: each Take comes to its place, -1 for none.
func takes(t *testing.T, s *Space, pairs ...int) {
	t.Helper()
	for i := 0; i < len(pairs); i += 2 {
		words, want := pairs[i], pairs[i+1]
		if at, ok := s.Take(words); at != max(want, 0) || ok != (want >= 0) {
			t.Fatalf("Take(%d): %d, %v, not %d", words, at, ok, want)
		}
	}
}

// look is all that a space tells of itself, but for its places.
type look struct{ used, left, room, now, other int }

func tells(t *testing.T, s *Space, want look) {
	t.Helper()
	now, other := s.Begin()
	if got := (look{s.Used(), s.Left(), s.Room(), now, other}); got != want {
		t.Fatalf("it tells %+v, not %+v", got, want)
	}
}

// span is a row of places, to not among them.
type span struct{ from, to int }

// spans: In and From are true at just these, all around both halves and far from them.
func spans(t *testing.T, s *Space, in, from span) {
	t.Helper()
	now, other := s.Begin()
	places := []int{math.MinInt, math.MinInt + 1, math.MinInt32, math.MaxInt32, 2 * api.MaxWords, math.MaxInt - 1, math.MaxInt}
	for at := min(now, other) - 3; at < max(now, other)+s.Room()+s.Used()+3; at++ {
		places = append(places, at)
	}
	for _, at := range places {
		if got, want := s.In(at), in.from <= at && at < in.to; got != want {
			t.Fatalf("In(%d): %v", at, got)
		}
		if got, want := s.From(at), from.from <= at && at < from.to; got != want {
			t.Fatalf("From(%d): %v", at, got)
		}
	}
}

func flips(t *testing.T, s *Space, want bool) {
	t.Helper()
	if got := s.Flip(); got != want {
		t.Fatalf("Flip: %v", got)
	}
}

func drops(t *testing.T, s *Space, want bool) {
	t.Helper()
	if got := s.Drop(); got != want {
		t.Fatalf("Drop: %v", got)
	}
}

func TestNewTakesTheNearest(t *testing.T) {
	const most = api.MaxWords
	for _, c := range []struct{ from, words, low, size int }{
		{100, 10, 100, 10},
		{0, 0, 0, 0},
		{0, 1, 0, 1},
		{1, 0, 1, 0},
		{-1, 5, 0, 5},
		{5, -1, 5, 0},
		{math.MinInt, math.MinInt, 0, 0},
		{math.MinInt, math.MaxInt, 0, most},
		{math.MaxInt, math.MinInt, most, 0},
		{most - 1, most - 1, most - 1, most - 1},
		{most, most, most, most},
		{most + 1, 7, most, 7},
		{7, most + 1, 7, most},
		{math.MaxInt, math.MaxInt, most, most},
	} {
		s := New(c.from, c.words)
		if s == nil {
			t.Fatalf("New(%d, %d) is nil", c.from, c.words)
		}
		tells(t, s, look{0, 0, c.size, c.low, c.low + c.size})
		if s.In(c.low) || s.From(c.low) || s.In(c.low+c.size) || s.From(c.low+c.size) {
			t.Errorf("%v: something is used of a new one", c)
		}
	}
}

func TestTheGreatestSpace(t *testing.T) {
	const most = api.MaxWords
	s := New(math.MaxInt, math.MaxInt)
	takes(t, s, most+1, -1, most, most, 1, -1)
	if s.In(most-1) || !s.In(most) || !s.In(2*most-1) || s.In(2*most) {
		t.Error("In")
	}
	flips(t, s, true)
	takes(t, s, most-1, 2*most, 2, -1, 1, 3*most-1, 1, -1)
	if s.In(2*most-1) || !s.In(2*most) || !s.In(3*most-1) || s.In(3*most) {
		t.Error("In, of the second half")
	}
	if s.From(most-1) || !s.From(most) || !s.From(2*most-1) || s.From(2*most) {
		t.Error("From")
	}
	tells(t, s, look{most, most, 0, 2 * most, most})
}

func TestTake(t *testing.T) {
	s := New(100, 10)
	takes(t, s, 1, 100, 4, 101)
	tells(t, s, look{5, 0, 5, 100, 110})
	spans(t, s, span{100, 105}, span{})
	takes(t, s, 6, -1, 5, 105, 1, -1)
	tells(t, s, look{10, 0, 0, 100, 110})
	spans(t, s, span{100, 110}, span{})
}

func TestTakeAllAtOnce(t *testing.T) {
	s := New(0, 8)
	takes(t, s, 9, -1, 8, 0)
	tells(t, s, look{8, 0, 0, 0, 8})
	spans(t, s, span{0, 8}, span{})
}

func TestTakeWrongNumbers(t *testing.T) {
	s := New(100, 10)
	takes(t, s, 3, 100)
	takes(t, s, 0, -1, -1, -1, -3, -1, math.MinInt, -1, math.MinInt+1, -1, 8, -1, 11, -1, math.MaxInt32, -1, math.MaxInt-1, -1, math.MaxInt, -1)
	tells(t, s, look{3, 0, 7, 100, 110})
	spans(t, s, span{100, 103}, span{})
	takes(t, s, 7, 103)
}

func TestFlip(t *testing.T) {
	s := New(100, 10)
	takes(t, s, 4, 100)
	flips(t, s, true)
	tells(t, s, look{0, 4, 10, 110, 100})
	spans(t, s, span{}, span{100, 104})
	takes(t, s, 11, -1, 6, 110)
	tells(t, s, look{6, 4, 4, 110, 100})
	spans(t, s, span{110, 116}, span{100, 104})
}

func TestFlipIntoAHalfThatIsNotEmpty(t *testing.T) {
	s := New(100, 10)
	takes(t, s, 1, 100)
	flips(t, s, true)
	flips(t, s, false)
	tells(t, s, look{0, 1, 10, 110, 100})
	takes(t, s, 2, 110)
	flips(t, s, false)
	tells(t, s, look{2, 1, 8, 110, 100})
	spans(t, s, span{110, 112}, span{100, 101})
	takes(t, s, 3, 112)
}

// What is filled may be empty: only the other half counts.
func TestFlipOfEmptyHalves(t *testing.T) {
	s := New(100, 10)
	for n := range 5 {
		flips(t, s, true)
		drops(t, s, false)
		tells(t, s, look{0, 0, 10, 110 - n%2*10, 100 + n%2*10})
	}
	takes(t, s, 10, 110)
	flips(t, s, true)
	takes(t, s, 10, 100)
}

func TestDrop(t *testing.T) {
	s := New(100, 10)
	drops(t, s, false)
	takes(t, s, 4, 100)
	drops(t, s, false)
	tells(t, s, look{4, 0, 6, 100, 110})
	flips(t, s, true)
	takes(t, s, 7, 110)
	drops(t, s, true)
	tells(t, s, look{7, 0, 3, 110, 100})
	spans(t, s, span{110, 117}, span{})
	drops(t, s, false)
	tells(t, s, look{7, 0, 3, 110, 100})
	takes(t, s, 3, 117)
}

// A half that was dropped is filled from its beginning on.
func TestRoundAndRound(t *testing.T) {
	s := New(7, 5)
	for range 4 {
		takes(t, s, 2, 7, 3, 9, 1, -1)
		flips(t, s, true)
		takes(t, s, 4, 12)
		flips(t, s, false)
		drops(t, s, true)
		takes(t, s, 1, 16)
		flips(t, s, true)
		tells(t, s, look{0, 5, 5, 7, 12})
		spans(t, s, span{}, span{12, 17})
		drops(t, s, true)
		tells(t, s, look{0, 0, 5, 7, 12})
	}
}

func TestWithoutWords(t *testing.T) {
	for _, from := range []int{math.MinInt, -5, 0, 3, api.MaxWords} {
		s := New(from, -5)
		low := max(from, 0)
		takes(t, s, 0, -1, 1, -1, -1, -1, math.MinInt, -1, math.MaxInt, -1)
		for range 3 {
			flips(t, s, true)
			drops(t, s, false)
			tells(t, s, look{0, 0, 0, low, low})
			spans(t, s, span{}, span{})
		}
	}
}

func TestNoSpace(t *testing.T) {
	var s *Space
	for range 2 {
		takes(t, s, 0, -1, 1, -1, -1, -1, math.MinInt, -1, math.MaxInt, -1)
		flips(t, s, false)
		drops(t, s, false)
		tells(t, s, look{})
		spans(t, s, span{}, span{})
	}
}

func TestSpacesLieApart(t *testing.T) {
	a, b := New(100, 10), New(100, 10)
	takes(t, a, 4, 100)
	flips(t, a, true)
	takes(t, a, 2, 110)
	tells(t, b, look{0, 0, 10, 100, 110})
	takes(t, b, 9, 100)
	tells(t, a, look{2, 4, 8, 110, 100})
}

func TestAskingChangesNothing(t *testing.T) {
	s := New(100, 10)
	takes(t, s, 4, 100)
	flips(t, s, true)
	takes(t, s, 2, 110)
	for range 3 {
		tells(t, s, look{2, 4, 8, 110, 100})
		spans(t, s, span{110, 112}, span{100, 104})
	}
}
