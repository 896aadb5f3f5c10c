package buf

import (
	"math"
	"slices"
	"testing"

	"tilth/api"
)

const most = api.MaxWords

// places is what may stand in a row: nobody asks whether there is such a place.
var places = []int{math.MinInt, math.MinInt + 1, math.MinInt32, -1, 0, 1, 7, most, most + 1, math.MaxInt32, math.MaxInt - 1, math.MaxInt}

// puts: Put answers so of each of these.
func puts(t *testing.T, b *Buffer, want bool, list ...int) {
	t.Helper()
	for _, at := range list {
		if b.Put(at) != want {
			t.Fatalf("Put(%d): %v", at, !want)
		}
	}
}

// takes: Take comes to these, one by one.
func takes(t *testing.T, b *Buffer, list ...int) {
	t.Helper()
	for _, want := range list {
		if at, ok := b.Take(); at != want || !ok {
			t.Fatalf("Take: %d, %v, not %d", at, ok, want)
		}
	}
}

// takesNone: there is nothing to take, however often it is asked for.
func takesNone(t *testing.T, b *Buffer) {
	t.Helper()
	for range 3 {
		if at, ok := b.Take(); at != 0 || ok {
			t.Fatalf("Take of none: %d, %v", at, ok)
		}
	}
}

// stand: just these stand there, in this order.
func stand(t *testing.T, b *Buffer, list ...int) {
	t.Helper()
	if all := b.All(); !slices.Equal(all, list) {
		t.Fatalf("All: %v, not %v", all, list)
	}
	if n := b.Len(); n != len(list) {
		t.Fatalf("Len: %d, not %d", n, len(list))
	}
}

func TestNewTakesTheNearest(t *testing.T) {
	for _, c := range []struct{ asked, room int }{
		{math.MinInt, 0}, {math.MinInt32, 0}, {-2, 0}, {-1, 0}, {0, 0},
		{1, 1}, {2, 2}, {3, 3}, {api.MaxBuffer, api.MaxBuffer}, {api.MaxBuffer + 1, api.MaxBuffer + 1},
		{most - 1, most - 1}, {most, most}, {most + 1, most}, {math.MaxInt32, most}, {math.MaxInt - 1, most}, {math.MaxInt, most},
	} {
		b := New(c.asked)
		if b == nil {
			t.Fatalf("New(%d): nil", c.asked)
		}
		stand(t, b)
		takesNone(t, b)
		for n := range c.room {
			puts(t, b, true, -n)
		}
		puts(t, b, false, 1, 0, -1)
		if n := b.Len(); n != c.room {
			t.Fatalf("New(%d): room for %d, not %d", c.asked, n, c.room)
		}
	}
}

func TestNoBuffer(t *testing.T) {
	var b *Buffer
	for range 2 {
		puts(t, b, false, places...)
		takesNone(t, b)
		stand(t, b)
	}
}

func TestNoRoom(t *testing.T) {
	for _, n := range []int{math.MinInt, -1, 0} {
		b := New(n)
		puts(t, b, false, places...)
		takesNone(t, b)
		stand(t, b)
	}
}

func TestPutStandsLast(t *testing.T) {
	b := New(4)
	puts(t, b, true, 9)
	stand(t, b, 9)
	puts(t, b, true, 3)
	stand(t, b, 9, 3)
	puts(t, b, true, 5, 3)
	stand(t, b, 9, 3, 5, 3)
}

func TestTakeIsTheFirst(t *testing.T) {
	b := New(4)
	puts(t, b, true, 9, 3, 5)
	takes(t, b, 9)
	stand(t, b, 3, 5)
	takes(t, b, 3)
	stand(t, b, 5)
	takes(t, b, 5)
	stand(t, b)
	takesNone(t, b)
	stand(t, b)
}

func TestFull(t *testing.T) {
	b := New(3)
	puts(t, b, true, 1, 2, 3)
	puts(t, b, false, 4, 1, 3)
	stand(t, b, 1, 2, 3)
	takes(t, b, 1)
	puts(t, b, true, 5)
	puts(t, b, false, 6)
	stand(t, b, 2, 3, 5)
	takes(t, b, 2, 3)
	puts(t, b, true, 7, 8)
	puts(t, b, false, 9)
	takes(t, b, 5, 7, 8)
	takesNone(t, b)
	puts(t, b, true, 0, 0, 0)
	puts(t, b, false, 0)
	stand(t, b, 0, 0, 0)
}

func TestAnyPlace(t *testing.T) {
	b := New(len(places))
	puts(t, b, true, places...)
	stand(t, b, places...)
	takes(t, b, places...)
	takesNone(t, b)
}

func TestTheGreatestRow(t *testing.T) {
	b := New(math.MaxInt)
	for n := range most {
		puts(t, b, true, n)
	}
	for n := range most {
		puts(t, b, false, n)
		takes(t, b, n)
		puts(t, b, true, most+n)
	}
	puts(t, b, false, 0)
	all := b.All()
	if len(all) != most || all[0] != most || all[most-1] != 2*most-1 {
		t.Fatal(len(all))
	}
	for n := range most {
		takes(t, b, most+n)
	}
	takesNone(t, b)
}

// What went makes room, however long a row is used.
func TestLongUse(t *testing.T) {
	for room := 1; room < 6; room++ {
		b := New(room)
		for n := range room {
			puts(t, b, true, n)
		}
		for n := range 1000 {
			puts(t, b, false, -1)
			takes(t, b, n)
			puts(t, b, true, n+room)
		}
		if n := b.Len(); n != room {
			t.Fatal(n)
		}
	}
}

func TestAskingChangesNothing(t *testing.T) {
	b := New(3)
	puts(t, b, true, 4, 6)
	for range 3 {
		stand(t, b, 4, 6)
	}
	puts(t, b, true, 8)
	puts(t, b, false, 9)
	takes(t, b, 4, 6, 8)
}

// spoil: each item of a list, and all its spare room, is written over.
func spoil(list []int) {
	list = list[:cap(list)]
	for n := range list {
		list[n] = -99
	}
}

// What All answers is neither the row's own nor another answer's, spare room included, whatever room the row has got behind it and ahead.
func TestAllIsNewMemory(t *testing.T) {
	for room := range 20 {
		for put := range room + 1 {
			for took := range put + 1 {
				b, want := New(room), []int(nil)
				for n := range put {
					puts(t, b, true, n)
					want = append(want, n)
				}
				takes(t, b, want[:took]...)
				want = want[took:]
				first, second := b.All(), b.All()
				spoil(first)
				if !slices.Equal(second, want) {
					t.Fatalf("another answer: %v, not %v", second, want)
				}
				stand(t, b, want...)
				third := b.All()
				for n := 0; b.Put(1000 + n); n++ {
					want = append(want, 1000+n)
				}
				spoil(first)
				spoil(second)
				spoil(third)
				stand(t, b, want...)
				takes(t, b, want...)
			}
		}
	}
}

func TestAllStaysAsItWas(t *testing.T) {
	b := New(4)
	puts(t, b, true, 1, 2)
	was := b.All()
	takes(t, b, 1)
	puts(t, b, true, 3, 4, 5)
	takes(t, b, 2, 3, 4, 5)
	puts(t, b, true, 6, 7, 8, 9)
	if !slices.Equal(was, []int{1, 2}) {
		t.Fatal(was)
	}
}

func TestBuffersLieApart(t *testing.T) {
	a, b := New(2), New(2)
	puts(t, a, true, 1)
	stand(t, b)
	puts(t, b, true, 2, 3)
	takesNone(t, New(2))
	puts(t, a, true, 4)
	stand(t, a, 1, 4)
	takes(t, b, 2)
	stand(t, a, 1, 4)
	stand(t, b, 3)
}

// A row is of anything, not of places alone.
func TestRowOfAnything(t *testing.T) {
	type pair struct {
		name string
		list []int
	}
	r := row[pair]{most: 2}
	if !r.put(pair{"a", []int{1}}) || !r.put(pair{"b", nil}) || r.put(pair{"c", nil}) || r.count() != 2 {
		t.Fatal(r.all())
	}
	all := r.all()
	all[1].name = "z"
	for _, want := range []string{"a", "b"} {
		if p, ok := r.take(); !ok || p.name != want {
			t.Fatal(p, ok)
		}
	}
	if p, ok := r.take(); ok || p.name != "" || p.list != nil {
		t.Fatal(p, ok)
	}
}
