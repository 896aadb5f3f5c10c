package grey

import (
	"math"
	"slices"
	"testing"

	"tilth/api"
)

const most = api.MaxWords

// places is what may stand on a stack: nobody asks whether there is such a place.
var places = []int{math.MinInt, math.MinInt + 1, math.MinInt32, -1, 0, 1, 7, most, most + 1, math.MaxInt32, math.MaxInt - 1, math.MaxInt}

// pushes: Push answers so of each of these.
func pushes(t *testing.T, s *Stack, want bool, list ...int) {
	t.Helper()
	for _, at := range list {
		if s.Push(at) != want {
			t.Fatalf("Push(%d): %v", at, !want)
		}
	}
}

// pops: Pop comes to these, one by one.
func pops(t *testing.T, s *Stack, list ...int) {
	t.Helper()
	for _, want := range list {
		if at, ok := s.Pop(); at != want || !ok {
			t.Fatalf("Pop: %d, %v, not %d", at, ok, want)
		}
	}
}

// popsNone: there is nothing to take, however often it is asked for.
func popsNone(t *testing.T, s *Stack) {
	t.Helper()
	for range 3 {
		if at, ok := s.Pop(); at != 0 || ok {
			t.Fatalf("Pop of none: %d, %v", at, ok)
		}
	}
}

// lost: whether something is, asked twice, as asking finds nothing.
func lost(t *testing.T, s *Stack, want bool) {
	t.Helper()
	for range 2 {
		if s.Lost() != want {
			t.Fatalf("Lost: %v", !want)
		}
	}
}

// stand: just these stand there, in this order.
func stand(t *testing.T, s *Stack, list ...int) {
	t.Helper()
	if all := s.All(); !slices.Equal(all, list) {
		t.Fatalf("All: %v, not %v", all, list)
	}
	if n := s.Len(); n != len(list) {
		t.Fatalf("Len: %d, not %d", n, len(list))
	}
}

func TestNewTakesTheNearest(t *testing.T) {
	for _, c := range []struct{ asked, room int }{
		{math.MinInt, 0}, {math.MinInt32, 0}, {-2, 0}, {-1, 0}, {0, 0},
		{1, 1}, {2, 2}, {3, 3}, {api.MaxStack, api.MaxStack}, {api.MaxStack + 1, api.MaxStack + 1},
		{most - 1, most - 1}, {most, most}, {most + 1, most}, {math.MaxInt32, most}, {math.MaxInt - 1, most}, {math.MaxInt, most},
	} {
		s := New(c.asked)
		if s == nil {
			t.Fatalf("New(%d): nil", c.asked)
		}
		stand(t, s)
		lost(t, s, false)
		popsNone(t, s)
		for n := range c.room {
			pushes(t, s, true, -n)
		}
		lost(t, s, false)
		pushes(t, s, false, 1, 0, -1)
		lost(t, s, true)
		if n := s.Len(); n != c.room {
			t.Fatalf("New(%d): room for %d, not %d", c.asked, n, c.room)
		}
	}
}

func TestNoStack(t *testing.T) {
	var s *Stack
	for range 2 {
		pushes(t, s, false, places...)
		lost(t, s, false)
		s.Put(nil)
		s.Put(places)
		lost(t, s, false)
		s.Found()
		lost(t, s, false)
		popsNone(t, s)
		stand(t, s)
	}
}

// A Stack that nobody made has no room; nor has one of which too little was asked.
func TestNoRoom(t *testing.T) {
	for _, s := range []*Stack{new(Stack), New(0), New(-1), New(math.MinInt)} {
		stand(t, s)
		lost(t, s, false)
		pushes(t, s, false, places...)
		lost(t, s, true)
		popsNone(t, s)
		stand(t, s)
		s.Found()
		lost(t, s, false)
		s.Put(nil)
		s.Put([]int{})
		lost(t, s, false)
		s.Put(places)
		lost(t, s, true)
		stand(t, s)
	}
}

func TestPushStandsLast(t *testing.T) {
	s := New(4)
	pushes(t, s, true, 9)
	stand(t, s, 9)
	pushes(t, s, true, 3)
	stand(t, s, 9, 3)
	pushes(t, s, true, 5, 3)
	stand(t, s, 9, 3, 5, 3)
	lost(t, s, false)
}

func TestPopIsTheLast(t *testing.T) {
	s := New(4)
	pushes(t, s, true, 9, 3, 5)
	pops(t, s, 5)
	stand(t, s, 9, 3)
	pushes(t, s, true, 4)
	stand(t, s, 9, 3, 4)
	pops(t, s, 4, 3)
	stand(t, s, 9)
	pops(t, s, 9)
	stand(t, s)
	popsNone(t, s)
	stand(t, s)
	lost(t, s, false)
	pushes(t, s, true, 0)
	pops(t, s, 0)
	popsNone(t, s)
}

func TestFull(t *testing.T) {
	s := New(3)
	pushes(t, s, true, 1, 2, 3)
	lost(t, s, false)
	pushes(t, s, false, 4, 1, 3)
	lost(t, s, true)
	stand(t, s, 1, 2, 3)
	pops(t, s, 3)
	pushes(t, s, true, 5)
	pushes(t, s, false, 6)
	stand(t, s, 1, 2, 5)
	pops(t, s, 5, 2, 1)
	popsNone(t, s)
	pushes(t, s, true, 0, 0, 0)
	pushes(t, s, false, 0)
	stand(t, s, 0, 0, 0)
}

// What is Lost is so till Found is called, whatever else is.
func TestLostStays(t *testing.T) {
	s := New(2)
	pushes(t, s, true, 1, 2)
	pushes(t, s, false, 3)
	lost(t, s, true)
	pops(t, s, 2)
	lost(t, s, true)
	pushes(t, s, true, 4)
	lost(t, s, true)
	pops(t, s, 4, 1)
	popsNone(t, s)
	stand(t, s)
	lost(t, s, true)
	s.Put([]int{5})
	lost(t, s, true)
	s.Put([]int{5, 6})
	lost(t, s, true)
	s.Put(nil)
	lost(t, s, true)
	stand(t, s)
	s.Found()
	lost(t, s, false)
	pushes(t, s, true, 7)
	lost(t, s, false)
}

// Found says that nothing is Lost, and no more than that.
func TestFound(t *testing.T) {
	s := New(2)
	s.Found()
	lost(t, s, false)
	pushes(t, s, true, 1)
	s.Found()
	stand(t, s, 1)
	pushes(t, s, true, 2)
	for range 3 {
		pushes(t, s, false, 3)
		lost(t, s, true)
		s.Found()
		lost(t, s, false)
		stand(t, s, 1, 2)
	}
	s.Found()
	lost(t, s, false)
	pops(t, s, 2, 1)
	lost(t, s, false)
	popsNone(t, s)
	lost(t, s, false)
}

func TestPutStandsInTheirPlace(t *testing.T) {
	s := New(3)
	s.Put([]int{4, 8})
	stand(t, s, 4, 8)
	s.Put([]int{5})
	stand(t, s, 5)
	s.Put([]int{9, 9, 2})
	stand(t, s, 9, 9, 2)
	lost(t, s, false)
	pushes(t, s, false, 1)
	s.Found()
	s.Put([]int{})
	stand(t, s)
	popsNone(t, s)
	lost(t, s, false)
	pushes(t, s, true, 1)
	s.Put([]int{6, 7})
	pushes(t, s, true, 3)
	pops(t, s, 3, 7, 6)
	popsNone(t, s)
	pushes(t, s, true, 1, 2)
	s.Put(nil)
	stand(t, s)
	popsNone(t, s)
	lost(t, s, false)
}

// Of a list that is too long the first ones stand there, and the others are Lost.
func TestPutTooMany(t *testing.T) {
	list := []int{3, 1, 4, 1, 5, 9}
	for room := range 8 {
		for n := range len(list) + 1 {
			s := New(room)
			pushes(t, s, room > 0, -1)
			s.Found()
			s.Put(list[:n])
			stand(t, s, list[:min(n, room)]...)
			lost(t, s, n > room)
			pushes(t, s, n < room, 7)
			lost(t, s, n >= room)
		}
	}
}

func TestAnyPlace(t *testing.T) {
	s := New(len(places))
	pushes(t, s, true, places...)
	stand(t, s, places...)
	s.Put(places)
	stand(t, s, places...)
	back := slices.Clone(places)
	slices.Reverse(back)
	pops(t, s, back...)
	popsNone(t, s)
	lost(t, s, false)
}

func TestTheGreatestStack(t *testing.T) {
	s := New(math.MaxInt)
	list := make([]int, most+2)
	for n := range list {
		list[n] = most - n
	}
	s.Put(list[:most])
	lost(t, s, false)
	stand(t, s, list[:most]...)
	s.Put(list)
	lost(t, s, true)
	stand(t, s, list[:most]...)
	pushes(t, s, false, 0)
	for n := range most {
		pops(t, s, n+1)
	}
	popsNone(t, s)
}

func TestLongUse(t *testing.T) {
	for room := 1; room < 6; room++ {
		s := New(room)
		for n := range 1000 {
			for k := range room {
				pushes(t, s, true, n+k)
			}
			for k := range room {
				pops(t, s, n+room-1-k)
			}
			popsNone(t, s)
		}
		lost(t, s, false)
	}
}

func TestAskingChangesNothing(t *testing.T) {
	s := New(3)
	pushes(t, s, true, 4, 6)
	for range 3 {
		stand(t, s, 4, 6)
		lost(t, s, false)
	}
	pushes(t, s, true, 8)
	pushes(t, s, false, 9)
	pops(t, s, 8, 6, 4)
}

// spoil: each item of a list, and all its spare room, is written over.
func spoil(list []int) {
	list = list[:cap(list)]
	for n := range list {
		list[n] = -99
	}
}

// What All answers is neither the stack's own nor another answer's, spare room included, whatever room the stack has got behind it.
func TestAllIsNewMemory(t *testing.T) {
	for room := range 20 {
		for put := range room + 1 {
			for took := range put + 1 {
				s, want := New(room), []int(nil)
				for n := range put {
					pushes(t, s, true, n)
					want = append(want, n)
				}
				for range took {
					s.Pop()
				}
				want = want[:put-took]
				first, second := s.All(), s.All()
				spoil(first)
				if !slices.Equal(second, want) {
					t.Fatalf("another answer: %v, not %v", second, want)
				}
				stand(t, s, want...)
				third := s.All()
				for n := 0; s.Push(1000 + n); n++ {
					want = append(want, 1000+n)
				}
				spoil(first)
				spoil(second)
				spoil(third)
				stand(t, s, want...)
			}
		}
	}
}

func TestAllStaysAsItWas(t *testing.T) {
	s := New(4)
	pushes(t, s, true, 1, 2)
	was := s.All()
	pops(t, s, 2, 1)
	pushes(t, s, true, 3, 4, 5)
	s.Put([]int{6, 7, 8, 9})
	if !slices.Equal(was, []int{1, 2}) {
		t.Fatal(was)
	}
}

// A list that is Put is neither changed nor kept, spare room included.
func TestPutLeavesTheList(t *testing.T) {
	for room := range 7 {
		for n := range 7 {
			whole := []int{10, 11, 12, 13, 14, 15, 16, 17}
			was := slices.Clone(whole)
			s := New(room)
			s.Put(whole[:n])
			s.Pop()
			for s.Push(-1) {
			}
			s.Put(s.All())
			s.Put(whole[:n])
			if !slices.Equal(whole, was) {
				t.Fatalf("changed: %v", whole)
			}
			spoil(whole)
			stand(t, s, was[:min(n, room)]...)
		}
	}
}

func TestPutOfItsOwn(t *testing.T) {
	s := New(3)
	pushes(t, s, true, 4, 2, 6)
	s.Put(s.All())
	stand(t, s, 4, 2, 6)
	s.Put(s.All()[1:])
	stand(t, s, 2, 6)
	lost(t, s, false)
}

func TestStacksLieApart(t *testing.T) {
	a, b := New(2), New(2)
	pushes(t, a, true, 1)
	stand(t, b)
	list := []int{2, 3, 4}
	b.Put(list)
	lost(t, b, true)
	lost(t, a, false)
	a.Put(list[:2])
	pops(t, a, 3)
	pushes(t, a, true, 9)
	stand(t, a, 2, 9)
	stand(t, b, 2, 3)
	a.Found()
	lost(t, b, true)
	lost(t, New(2), false)
}
