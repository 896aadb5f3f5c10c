package arena

import (
	"math"
	"math/big"
	"slices"
	"testing"

	"tilth/api"
)

// far are numbers at the ends of int, and those whose sums wrap round.
var far = []int{math.MinInt, math.MinInt + 1, math.MinInt32, math.MaxInt32, api.MaxWords, api.MaxWords + 1, 1 << 32, math.MaxInt/2 + 1, math.MaxInt - 1, math.MaxInt}

// filled is an arena whose word at each place is told by the place, and what it has.
func filled(t *testing.T, n int) (*Arena, []uint64) {
	t.Helper()
	a, want := New(n), make([]uint64, n)
	for i := range want {
		want[i] = uint64(i+1) * 0x9e3779b97f4a7c15
		if e := a.Store(i, want[i]); e != api.OK {
			t.Fatalf("Store(%d) = %v", i, e)
		}
	}
	return a, want
}

// holds reads all words by Load, and so each word is counted once.
func holds(t *testing.T, a *Arena, want []uint64) {
	t.Helper()
	if a.Len() != len(want) {
		t.Fatalf("Len() = %d, want %d", a.Len(), len(want))
	}
	before := a.Count()
	for i, w := range want {
		if got, e := a.Load(i); e != api.OK || got != w {
			t.Fatalf("Load(%d) = %#x, %v; want %#x", i, got, e, w)
		}
	}
	if got := a.Count() - before; got != len(want) {
		t.Fatalf("%d Loads counted %d", len(want), got)
	}
}

// there is the document's condition, in numbers that don't wrap round.
func there(at, n, size int) bool {
	end := new(big.Int).Add(big.NewInt(int64(at)), big.NewInt(int64(n)))
	return at >= 0 && n >= 0 && end.Cmp(big.NewInt(int64(size))) <= 0
}

// numbers are all around an arena of so many words, and those far from it.
func numbers(size int) []int {
	list := slices.Clone(far)
	for n := -2; n <= size+2; n++ {
		list = append(list, n)
	}
	return list
}

func errno(ok bool) api.Errno {
	if ok {
		return api.OK
	}
	return api.ErrRange
}

func TestNewIsTheNearestSize(t *testing.T) {
	for _, c := range [][2]int{
		{0, 0}, {1, 1}, {2, 2}, {1000, 1000},
		{-1, 0}, {-8, 0}, {math.MinInt32, 0}, {math.MinInt, 0},
		{api.MaxWords - 1, api.MaxWords - 1}, {api.MaxWords, api.MaxWords},
		{api.MaxWords + 1, api.MaxWords}, {1 << 40, api.MaxWords}, {math.MaxInt, api.MaxWords},
	} {
		a := New(c[0])
		if a == nil {
			t.Fatalf("New(%d) is nil", c[0])
		}
		if a.Len() != c[1] || a.Count() != 0 {
			t.Errorf("New(%d): Len %d, Count %d; want %d, 0", c[0], a.Len(), a.Count(), c[1])
		}
		holds(t, a, make([]uint64, c[1]))
	}
}

func TestLoadAndStore(t *testing.T) {
	a := New(5)
	want := make([]uint64, 5)
	for i, w := range []uint64{7, math.MaxUint64, 1 << 63, 0, 9} {
		before := a.Count()
		if e := a.Store(i, w); e != api.OK || a.Count() != before+1 {
			t.Errorf("Store(%d) = %v, counted %d", i, e, a.Count()-before)
		}
		want[i] = w
		holds(t, a, want)
	}
	if a.Store(1, 0) != api.OK {
		t.Error("Store of 0")
	}
	want[1] = 0
	holds(t, a, want)
}

func TestLoadAndStoreBesideTheWords(t *testing.T) {
	for _, size := range []int{0, 1, 4} {
		a, want := filled(t, size)
		for _, at := range numbers(size) {
			if there(at, 1, size) {
				continue
			}
			before := a.Count()
			if w, e := a.Load(at); w != 0 || e != api.ErrRange {
				t.Errorf("%d words: Load(%d) = %d, %v", size, at, w, e)
			}
			if e := a.Store(at, 5); e != api.ErrRange {
				t.Errorf("%d words: Store(%d) = %v", size, at, e)
			}
			if a.Count() != before {
				t.Errorf("%d words: counted at %d", size, at)
			}
			holds(t, a, want)
		}
	}
}

// Every from, to and n around small arenas: those that overlap either way, that end at the last word, of no words, and all that are not there.
func TestCopy(t *testing.T) {
	for _, size := range []int{0, 1, 2, 6} {
		for _, from := range numbers(size) {
			for _, to := range numbers(size) {
				for _, n := range numbers(size) {
					checkCopy(t, size, from, to, n)
				}
			}
		}
	}
}

func checkCopy(t *testing.T, size, from, to, n int) {
	t.Helper()
	a, want := filled(t, size)
	before, ok := a.Count(), there(from, n, size) && there(to, n, size)
	e := a.Copy(from, to, n)
	counted := 0
	if ok {
		counted = 2 * n
		was := slices.Clone(want)
		for i := range n {
			want[to+i] = was[from+i]
		}
	}
	if e != errno(ok) || a.Count()-before != counted {
		t.Fatalf("%d words: Copy(%d, %d, %d) = %v, counted %d; want %v, %d", size, from, to, n, e, a.Count()-before, errno(ok), counted)
	}
	holds(t, a, want)
}

func TestCopyOverlaps(t *testing.T) {
	a := New(6)
	for i := range 6 {
		a.Store(i, uint64(10+i))
	}
	if a.Copy(0, 1, 5) != api.OK {
		t.Error("to the right")
	}
	holds(t, a, []uint64{10, 10, 11, 12, 13, 14})
	if a.Copy(2, 0, 4) != api.OK {
		t.Error("to the left")
	}
	holds(t, a, []uint64{11, 12, 13, 14, 13, 14})
	before := a.Count()
	if a.Copy(1, 1, 5) != api.OK || a.Count() != before+10 {
		t.Error("onto itself")
	}
	holds(t, a, []uint64{11, 12, 13, 14, 13, 14})
}

func TestZero(t *testing.T) {
	for _, size := range []int{0, 1, 2, 6} {
		for _, at := range numbers(size) {
			for _, n := range numbers(size) {
				checkZero(t, size, at, n)
			}
		}
	}
}

func checkZero(t *testing.T, size, at, n int) {
	t.Helper()
	a, want := filled(t, size)
	before, ok := a.Count(), there(at, n, size)
	e := a.Zero(at, n)
	counted := 0
	if ok {
		counted = n
		for i := range n {
			want[at+i] = 0
		}
	}
	if e != errno(ok) || a.Count()-before != counted {
		t.Fatalf("%d words: Zero(%d, %d) = %v, counted %d; want %v, %d", size, at, n, e, a.Count()-before, errno(ok), counted)
	}
	holds(t, a, want)
}

func TestNoWordsAtTheEnd(t *testing.T) {
	a := New(4)
	if a.Zero(4, 0) != api.OK || a.Copy(4, 4, 0) != api.OK || a.Copy(0, 4, 0) != api.OK || a.Copy(4, 0, 0) != api.OK {
		t.Error("no words at Len are there")
	}
	if a.Zero(5, 0) != api.ErrRange || a.Zero(-1, 0) != api.ErrRange || a.Copy(0, 5, 0) != api.ErrRange || a.Copy(5, 0, 0) != api.ErrRange || a.Copy(-1, 0, 0) != api.ErrRange || a.Copy(0, -1, 0) != api.ErrRange {
		t.Error("no words beside it are not")
	}
	if a.Count() != 0 {
		t.Errorf("Count() = %d", a.Count())
	}
}

func TestGreatestArena(t *testing.T) {
	a := New(api.MaxWords)
	last := api.MaxWords - 1
	if a.Store(last, 3) != api.OK || a.Store(api.MaxWords, 3) != api.ErrRange {
		t.Error("Store at the end")
	}
	if a.Copy(1, 0, last) != api.OK || a.Copy(1, 0, api.MaxWords) != api.ErrRange {
		t.Error("Copy to the end")
	}
	if w, e := a.Load(last - 1); w != 3 || e != api.OK {
		t.Errorf("Load = %d, %v", w, e)
	}
	if a.Zero(0, api.MaxWords) != api.OK || a.Zero(0, api.MaxWords+1) != api.ErrRange {
		t.Error("Zero of all")
	}
	if a.Count() != 1+2*last+1+api.MaxWords {
		t.Errorf("Count() = %d", a.Count())
	}
	holds(t, a, make([]uint64, api.MaxWords))
}

func TestNoArena(t *testing.T) {
	var a *Arena
	for _, at := range numbers(0) {
		if w, e := a.Load(at); w != 0 || e != api.ErrRange {
			t.Errorf("Load(%d) = %d, %v", at, w, e)
		}
		if e := a.Store(at, 1); e != api.ErrRange {
			t.Errorf("Store(%d) = %v", at, e)
		}
		for _, n := range numbers(0) {
			if e := a.Zero(at, n); e != api.ErrRange {
				t.Errorf("Zero(%d, %d) = %v", at, n, e)
			}
			if a.Copy(at, 0, n) != api.ErrRange || a.Copy(0, at, n) != api.ErrRange {
				t.Errorf("Copy at %d of %d", at, n)
			}
		}
	}
	if a.Len() != 0 || a.Count() != 0 {
		t.Errorf("Len %d, Count %d", a.Len(), a.Count())
	}
}

func TestArenasLieApart(t *testing.T) {
	a, want := filled(t, 4)
	b := New(4)
	holds(t, b, make([]uint64, 4))
	b.Store(2, 5)
	b.Zero(0, 1)
	holds(t, a, want)
	if a.Count() != 8 || b.Count() != 6 {
		t.Errorf("Count %d and %d, want 8 and 6", a.Count(), b.Count())
	}
}

func TestLenAndCountAskForNothing(t *testing.T) {
	a := New(3)
	for range 5 {
		if a.Len() != 3 || a.Count() != 0 {
			t.Fatalf("Len %d, Count %d", a.Len(), a.Count())
		}
	}
}

// FuzzRow goes through a row of calls and holds each one against a list.
func FuzzRow(f *testing.F) {
	f.Add([]byte{8, 0, 1, 2, 3, 2, 0, 2, 5, 3, 0, 2, 0})
	f.Add([]byte{0, 3, 0, 0, 0, 2, 0, 0, 0})
	f.Fuzz(func(t *testing.T, row []byte) {
		if len(row) == 0 {
			return
		}
		size := int(row[0] % 32)
		a, want, count := New(size), make([]uint64, size), 0
		for row = row[1:]; len(row) >= 4; row = row[4:] {
			x, y, n := int(int8(row[1])), int(int8(row[2])), int(int8(row[3]))
			var e, wish api.Errno
			switch row[0] % 4 {
			case 0:
				wish = errno(there(x, 1, size))
				if e = a.Store(x, uint64(y)); wish == api.OK {
					want[x], count = uint64(y), count+1
				}
			case 1:
				wish = errno(there(x, 1, size))
				w, got := a.Load(x)
				if e = got; wish == api.OK {
					count++
					if w != want[x] {
						t.Fatalf("Load(%d) = %d, want %d", x, w, want[x])
					}
				}
			case 2:
				wish = errno(there(x, n, size) && there(y, n, size))
				if e = a.Copy(x, y, n); wish == api.OK {
					was := slices.Clone(want)
					copy(want[y:y+n], was[x:x+n])
					count += 2 * n
				}
			case 3:
				wish = errno(there(x, n, size))
				if e = a.Zero(x, n); wish == api.OK {
					for i := range n {
						want[x+i] = 0
					}
					count += n
				}
			}
			if e != wish || a.Count() != count {
				t.Fatalf("call %d of %d, %d, %d: %v, Count %d; want %v, %d", row[0]%4, x, y, n, e, a.Count(), wish, count)
			}
		}
		holds(t, a, want)
	})
}
