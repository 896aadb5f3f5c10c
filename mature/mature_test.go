package mature

import (
	"math"
	"slices"
	"testing"

	"tilth/api"
)

// takes: each Take comes to its place, 0 for none.
func takes(t *testing.T, s *Space, pairs ...int) {
	t.Helper()
	for i := 0; i < len(pairs); i += 2 {
		words, want := pairs[i], pairs[i+1]
		if at, ok := s.Take(words); at != want || ok != (want > 0) {
			t.Fatalf("Take(%d): %d, %v, not %d", words, at, ok, want)
		}
	}
}

func gives(t *testing.T, s *Space, want bool, places ...int) {
	t.Helper()
	for _, at := range places {
		if got := s.Give(at); got != want {
			t.Fatalf("Give(%d): %v", at, got)
		}
	}
}

func pending(t *testing.T, s *Space, want int) {
	t.Helper()
	if n, ok := s.Pending(); n != max(want, 0) || ok != (want >= 0) {
		t.Fatalf("Pending: %d, %v, not %d", n, ok, want)
	}
}

func TestNewTakesTheNearest(t *testing.T) {
	for _, c := range []struct{ from, pages, page, low, count, words int }{
		{10, 3, 16, 10, 3, 16},
		{0, 0, 1, 0, 0, 1},
		{0, 1, 1, 0, 1, 1},
		{-1, 2, 0, 0, 2, 1},
		{math.MinInt, 1, math.MinInt, 0, 1, 1},
		{5, -1, 5, 5, 0, 5},
		{5, math.MinInt, 5, 5, 0, 5},
		{api.MaxWords, api.MaxPages, api.MaxPage, api.MaxWords, api.MaxPages, api.MaxPage},
		{api.MaxWords + 1, api.MaxPages + 1, api.MaxPage + 1, api.MaxWords, api.MaxPages, api.MaxPage},
		{math.MaxInt, math.MaxInt, math.MaxInt, api.MaxWords, api.MaxPages, api.MaxPage},
	} {
		s := New(c.from, c.pages, c.page)
		if s.Free() != c.count || s.Used() != 0 || len(s.Starts(math.MinInt, math.MaxInt)) != 0 {
			t.Errorf("%v: Free %d, Used %d", c, s.Free(), s.Used())
		}
		pending(t, s, -1)
		for _, n := range []int{math.MinInt, -1, c.count, c.count + 1, math.MaxInt} {
			if from, to := s.Page(n); from != 0 || to != 0 {
				t.Errorf("%v: Page(%d): %d, %d", c, n, from, to)
			}
		}
		for n := range c.count {
			if from, to := s.Page(n); from != c.low+n*c.words || to != from+c.words {
				t.Errorf("%v: Page(%d): %d, %d", c, n, from, to)
			}
		}
	}
}

// nothing: what a space without pages answers.
func nothing(t *testing.T, s *Space) {
	t.Helper()
	for _, n := range []int{math.MinInt, -1, 0, 1, 4, 256, math.MaxInt} {
		at, ok := s.Take(n)
		size, is := s.Size(n)
		from, to := s.Page(n)
		if at != 0 || ok || size != 0 || is || from != 0 || to != 0 || s.Give(n) || s.Done(n) {
			t.Errorf("%d: Take %d %v, Size %d %v, Page %d %d", n, at, ok, size, is, from, to)
		}
		if len(s.Starts(math.MinInt, n)) != 0 {
			t.Errorf("%d: Starts", n)
		}
	}
	s.Pend()
	pending(t, s, -1)
	if s.Free() != 0 || s.Used() != 0 {
		t.Errorf("Free %d, Used %d", s.Free(), s.Used())
	}
}

func TestWithoutPages(t *testing.T) {
	nothing(t, nil)
	nothing(t, &Space{})
	nothing(t, New(0, 0, 16))
	nothing(t, New(9, -5, 1))
}

func TestTakeWrongNumbers(t *testing.T) {
	s := New(100, 4, 16)
	takes(t, s, 0, 0, -1, 0, math.MinInt, 0, 65, 0, math.MaxInt, 0, math.MaxInt-1, 0)
	if s.Free() != 4 || s.Used() != 0 {
		t.Error(s.Free(), s.Used())
	}
	takes(t, s, 64, 100, 1, 0)
	one := New(100, 64, 1)
	takes(t, one, math.MaxInt, 0, 65, 0, 64, 100)
}

func TestTakeCells(t *testing.T) {
	// a page of 17 has 4 cells of 4, 2 of 6 and of 8; what is left over is nobody's
	s := New(100, 4, 17)
	takes(t, s, 1, 100, 5, 117, 7, 134, 4, 104, 6, 123, 8, 142, 3, 108, 2, 112)
	takes(t, s, 4, 151, 6, 0, 8, 0, 9, 0, 1, 155)
	gives(t, s, false, 116, 129, 150, 159)
	gives(t, s, true, 104, 112, 151)
	takes(t, s, 4, 104, 4, 112, 4, 151)
	gives(t, s, true, 123)
	takes(t, s, 4, 159, 5, 123)
	if s.Free() != 0 || s.Used() != 4*4+2*6+2*8+3*4 {
		t.Error(s.Free(), s.Used())
	}
}

func TestABlockWithoutAnyIsFree(t *testing.T) {
	s := New(100, 2, 16)
	takes(t, s, 4, 100, 4, 104, 8, 116)
	gives(t, s, true, 100)
	if s.Free() != 0 {
		t.Error(s.Free())
	}
	gives(t, s, true, 104)
	if s.Free() != 1 {
		t.Error(s.Free())
	}
	takes(t, s, 6, 100, 5, 106, 4, 0)
	gives(t, s, false, 104, 112)
	gives(t, s, true, 106, 100)
	takes(t, s, 16, 100)
}

func TestTheFirstFreePageForAnotherSize(t *testing.T) {
	s := New(100, 3, 16)
	takes(t, s, 4, 100, 6, 116, 8, 132)
	gives(t, s, true, 100)
	// a block of its size goes before a free page that is ahead of it
	takes(t, s, 8, 140, 6, 122, 6, 100)
}

func TestTakeLarge(t *testing.T) {
	s := New(100, 6, 16)
	takes(t, s, 8, 100, 9, 116, 16, 132, 17, 148, 1, 180)
	for at, want := range map[int]int{100: 8, 116: 16, 132: 16, 148: 32, 164: 0, 180: 4} {
		if size, ok := s.Size(at); size != want || ok != (want > 0) {
			t.Errorf("Size(%d): %d, %v", at, size, ok)
		}
	}
	gives(t, s, false, 164, 149, 115)
	gives(t, s, true, 116, 148)
	// 3 pages are free, but no 3 side by side
	takes(t, s, 33, 0)
	if s.Free() != 3 {
		t.Error(s.Free())
	}
	takes(t, s, 32, 148)
	gives(t, s, true, 132)
	takes(t, s, 9, 116, 16, 132, 9, 0)
	gives(t, s, true, 116, 132, 148)
	takes(t, s, 64, 116)
	gives(t, s, true, 180)
	gives(t, s, false, 180)
	takes(t, s, 10, 180, 10, 0)
	gives(t, s, true, 116)
	if s.Free() != 4 {
		t.Error(s.Free())
	}
}

func TestAPageOfOneSizeIsLarge(t *testing.T) {
	// half of 7 is 3: no cell fits twice
	s := New(50, 2, 7)
	takes(t, s, 1, 50, 3, 57, 1, 0)
	if size, ok := s.Size(50); size != 7 || !ok || s.Used() != 14 {
		t.Error(size, ok, s.Used())
	}
	// half of 8 is 4
	s = New(50, 2, 8)
	takes(t, s, 4, 50, 5, 58, 4, 54, 4, 0)
	if size, ok := s.Size(50); size != 4 || !ok || s.Used() != 16 {
		t.Error(size, ok, s.Used())
	}
	// of a page of one word each word is a page
	s = New(50, 5, 1)
	takes(t, s, 3, 50, 3, 0, 2, 53)
	if got := s.Starts(0, 100); !slices.Equal(got, []int{50, 53}) {
		t.Error(got)
	}
}

func TestWhereNothingBegins(t *testing.T) {
	for _, from := range []int{0, 100, api.MaxWords} {
		s := New(from, 4, 16)
		for _, words := range []int{4, 4, 20} {
			if _, ok := s.Take(words); !ok {
				t.Fatal(words)
			}
		}
		starts := []int{from, from + 4, from + 16}
		places := []int{math.MinInt, math.MinInt + from, -from, math.MaxInt - 1, math.MaxInt}
		for at := from - 20; at < from+100; at++ {
			places = append(places, at)
		}
		for _, at := range places {
			if slices.Contains(starts, at) {
				continue
			}
			if size, ok := s.Size(at); size != 0 || ok || s.Give(at) {
				t.Errorf("from %d: something at %d: %d, %v", from, at, size, ok)
			}
		}
		if got := s.Starts(math.MinInt, math.MaxInt); !slices.Equal(got, starts) {
			t.Errorf("from %d: %v", from, got)
		}
	}
}

func TestStarts(t *testing.T) {
	s := New(0, 5, 16)
	for _, words := range []int{4, 6, 4, 20, 4, 9} {
		s.Take(words)
	}
	gives(t, s, true, 4)
	for _, c := range []struct {
		from, to int
		want     []int
	}{
		{math.MinInt, math.MaxInt, []int{0, 8, 16, 32, 64}},
		{0, 64, []int{0, 8, 16, 32}},
		{0, 65, []int{0, 8, 16, 32, 64}},
		{1, 33, []int{8, 16, 32}},
		{8, 16, []int{8}},
		{9, 16, nil},
		{33, 64, nil},
		{8, 8, nil},
		{64, 0, nil},
		{65, math.MaxInt, nil},
		{math.MaxInt, math.MinInt, nil},
		{math.MinInt, 0, nil},
	} {
		if got := s.Starts(c.from, c.to); !slices.Equal(got, c.want) {
			t.Errorf("Starts(%d, %d): %v, not %v", c.from, c.to, got, c.want)
		}
	}
	got := s.Starts(0, 80)
	clear(got[:cap(got)])
	if again := s.Starts(0, 80); !slices.Equal(again, []int{0, 8, 16, 32, 64}) {
		t.Errorf("another answer was changed: %v", again)
	}
}

func TestPending(t *testing.T) {
	s := New(100, 8, 16)
	takes(t, s, 4, 100, 33, 116, 6, 164, 6, 170, 9, 180)
	pending(t, s, -1)
	for n := -1; n <= 8; n++ {
		if s.Done(n) {
			t.Error("Done ahead of Pend", n)
		}
	}
	s.Pend()
	// in a block that is pending nothing is taken, in a new one it is
	takes(t, s, 4, 196, 4, 200)
	for n, want := range []bool{true, true, false, false, true, true, false, false, false} {
		if s.Done(n) != want {
			t.Error("Done", n)
		}
		if s.Done(n) {
			t.Error("Done twice", n)
		}
	}
	pending(t, s, -1)
	takes(t, s, 4, 104)
}

func TestPendingOnes(t *testing.T) {
	s := New(100, 6, 16)
	takes(t, s, 4, 100, 17, 116, 6, 148, 16, 164)
	s.Pend()
	for _, n := range []int{0, 1, 3, 4} {
		pending(t, s, n)
		pending(t, s, n)
		if !s.Done(n) || s.Done(n) {
			t.Error("Done", n)
		}
	}
	pending(t, s, -1)
	s.Pend()
	if s.Done(math.MinInt) || s.Done(math.MaxInt) || s.Done(2) || s.Done(5) || !s.Done(3) {
		t.Error("Done")
	}
	pending(t, s, 0)
	takes(t, s, 6, 154, 4, 180)
}

func TestAFreePageIsNotPending(t *testing.T) {
	s := New(100, 4, 16)
	takes(t, s, 4, 100, 4, 104, 17, 116, 8, 148)
	s.Pend()
	gives(t, s, true, 100)
	pending(t, s, 0)
	gives(t, s, true, 104)
	pending(t, s, 1)
	gives(t, s, true, 116)
	pending(t, s, 3)
	if s.Done(0) || s.Done(1) || s.Done(2) {
		t.Error("Done of what is free")
	}
	// what it is from then on is not pending, either
	takes(t, s, 4, 100, 4, 104, 9, 116, 8, 132)
	pending(t, s, 3)
	if s.Done(0) || s.Done(1) || s.Done(2) || !s.Done(3) {
		t.Error("Done of what is new")
	}
	takes(t, s, 8, 140, 8, 156)
}

func TestPendAgain(t *testing.T) {
	s := New(100, 3, 16)
	takes(t, s, 4, 100)
	s.Pend()
	takes(t, s, 4, 116)
	s.Pend()
	if !s.Done(0) || !s.Done(1) || s.Done(2) {
		t.Error("Done")
	}
	takes(t, s, 4, 104)
}

func TestSpacesAreApart(t *testing.T) {
	a, b := New(100, 2, 16), New(100, 2, 16)
	takes(t, a, 4, 100, 9, 116)
	a.Pend()
	if b.Free() != 2 || b.Used() != 0 || len(b.Starts(0, 1000)) != 0 {
		t.Error(b.Free(), b.Used())
	}
	pending(t, b, -1)
	takes(t, b, 9, 100, 4, 116)
}
