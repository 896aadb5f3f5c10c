package table

import (
	"math"
	"slices"
	"testing"

	"tilth/api"
)

const most = api.MaxHandles

// places is what a handle may hold: nobody asks whether there is such a place.
var places = []int{math.MinInt, math.MinInt + 1, math.MinInt32, -1, 0, 1, 7, api.MaxWords, api.MaxWords + 1, math.MaxInt32, math.MaxInt - 1, math.MaxInt}

// none is numbers that no table has a handle of.
var none = []int{math.MinInt, math.MinInt + 1, math.MinInt32, -most, -2, -1, most, most + 1, math.MaxInt32, math.MaxInt - 1, math.MaxInt}

// sets: the handle is there, and takes it.
func sets(t *testing.T, x *Table, h, at int) {
	t.Helper()
	if e := x.Set(h, at); e != api.OK {
		t.Fatalf("Set(%d, %d): %d", h, at, e)
	}
}

// hold: there are just so many handles, and they hold these, asked in all ways.
func hold(t *testing.T, x *Table, list ...int) {
	t.Helper()
	if all := x.All(); !slices.Equal(all, list) {
		t.Fatalf("All: %v, not %v", all, list)
	}
	for h, want := range list {
		if at, e := x.Get(h); at != want || e != api.OK {
			t.Fatalf("Get(%d): %d, %d, not %d", h, at, e, want)
		}
	}
	lacks(t, x, len(list), len(list)+1)
	lacks(t, x, none...)
}

// lacks: of these there is no handle, whatever it should hold.
func lacks(t *testing.T, x *Table, numbers ...int) {
	t.Helper()
	for _, h := range numbers {
		if at, e := x.Get(h); at != 0 || e != api.ErrHandle {
			t.Fatalf("Get(%d): %d, %d", h, at, e)
		}
		for _, at := range []int{0, 5, -5} {
			if e := x.Set(h, at); e != api.ErrHandle {
				t.Fatalf("Set(%d, %d): %d", h, at, e)
			}
		}
	}
}

func TestNewTakesTheNearest(t *testing.T) {
	for _, c := range []struct{ asked, there int }{
		{math.MinInt, 0}, {math.MinInt32, 0}, {-most, 0}, {-2, 0}, {-1, 0}, {0, 0},
		{1, 1}, {2, 2}, {3, 3}, {most - 1, most - 1}, {most, most},
		{most + 1, most}, {api.MaxWords, most}, {math.MaxInt32, most}, {math.MaxInt - 1, most}, {math.MaxInt, most},
	} {
		x := New(c.asked)
		if x == nil {
			t.Fatalf("New(%d): nil", c.asked)
		}
		hold(t, x, make([]int, c.there)...)
	}
}

func TestEveryCount(t *testing.T) {
	for n := range most + 1 {
		x, want := New(n), make([]int, n)
		hold(t, x, want...)
		for h := range n {
			sets(t, x, h, 1000-h)
			want[h] = 1000 - h
			hold(t, x, want...)
		}
	}
}

func TestNoTable(t *testing.T) {
	var x *Table
	for range 2 {
		hold(t, x)
		lacks(t, x, 0, 1, most-1)
	}
}

// A Table that nobody made has no handles; nor has one of which too few were asked.
func TestNoHandles(t *testing.T) {
	for _, x := range []*Table{new(Table), New(0), New(-1), New(math.MinInt)} {
		hold(t, x)
		lacks(t, x, 0, 1, most-1)
		hold(t, x)
	}
}

func TestSetHoldsTheLast(t *testing.T) {
	x := New(3)
	sets(t, x, 0, 7)
	hold(t, x, 7, 0, 0)
	sets(t, x, 2, -9)
	hold(t, x, 7, 0, -9)
	sets(t, x, 0, 8)
	hold(t, x, 8, 0, -9)
	sets(t, x, 1, 8)
	hold(t, x, 8, 8, -9)
	sets(t, x, 1, 8)
	hold(t, x, 8, 8, -9)
	sets(t, x, 0, 0)
	sets(t, x, 2, 0)
	hold(t, x, 0, 8, 0)
}

func TestAnyPlace(t *testing.T) {
	x := New(len(places))
	for turn := range places {
		var want []int
		for h := range places {
			at := places[(h+turn)%len(places)]
			sets(t, x, h, at)
			want = append(want, at)
		}
		hold(t, x, want...)
	}
}

// A Set that finds no handle changes none of those that are there.
func TestWrongHandlesChangeNothing(t *testing.T) {
	for n := range most + 1 {
		x, want := New(n), []int(nil)
		for h := range n {
			sets(t, x, h, h+1)
			want = append(want, h+1)
		}
		lacks(t, x, none...)
		for h := n; h < 2*most; h++ {
			lacks(t, x, h, -1-h)
		}
		hold(t, x, want...)
	}
}

func TestAskingChangesNothing(t *testing.T) {
	x := New(2)
	sets(t, x, 1, 6)
	for range 3 {
		hold(t, x, 0, 6)
	}
}

// spoil: each item of a list, and all its spare room, is written over.
func spoil(list []int) {
	list = list[:cap(list)]
	for n := range list {
		list[n] = -99
	}
}

// What All answers is neither the table's own nor another answer's, spare room included.
func TestAllIsNewMemory(t *testing.T) {
	for n := range most + 1 {
		x, want := New(n), []int(nil)
		for h := range n {
			sets(t, x, h, 3*h)
			want = append(want, 3*h)
		}
		first, second := x.All(), x.All()
		spoil(first)
		if !slices.Equal(second, want) {
			t.Fatalf("another answer: %v, not %v", second, want)
		}
		hold(t, x, want...)
		spoil(second)
		hold(t, x, want...)
	}
}

func TestAllStaysAsItWas(t *testing.T) {
	x := New(3)
	sets(t, x, 1, 4)
	was := x.All()
	for h := range 3 {
		sets(t, x, h, 9)
	}
	if !slices.Equal(was, []int{0, 4, 0}) {
		t.Fatal(was)
	}
}

func TestTablesLieApart(t *testing.T) {
	a, b := New(2), New(2)
	sets(t, a, 0, 1)
	hold(t, b, 0, 0)
	sets(t, b, 0, 2)
	sets(t, b, 1, 3)
	hold(t, a, 1, 0)
	hold(t, b, 2, 3)
	hold(t, New(2), 0, 0)
}

// FuzzRow goes through a row of Sets, two bytes each, and holds each one against a map of what was set.
func FuzzRow(f *testing.F) {
	f.Add(int8(3), []byte{0, 7, 2, 247, 3, 1, 255, 1, 2, 4})
	f.Add(int8(-1), []byte{0, 1, 255, 2})
	f.Add(int8(127), []byte{63, 5, 64, 6, 0, 7, 127, 8, 128, 9})
	f.Fuzz(func(t *testing.T, n int8, row []byte) {
		x, held := New(int(n)), map[int]int{}
		there := min(max(int(n), 0), most)
		for row = row[:min(len(row), 200)]; len(row) >= 2; row = row[2:] {
			h, at := int(int8(row[0])), int(int8(row[1]))
			if h < 0 || h >= there {
				lacks(t, x, h)
			} else {
				sets(t, x, h, at)
				held[h] = at
			}
			var want []int
			for h := range there {
				want = append(want, held[h])
			}
			hold(t, x, want...)
		}
	})
}
