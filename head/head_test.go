package head

import (
	"math"
	"testing"

	"tilth/api"
)

// word is the document's layout, written out by places rather than by the package's own masks.
func word(size, ptrs, age, parity, flags uint64) uint64 {
	return size + ptrs*(1<<16) + age*(1<<32) + parity*(1<<40) + flags*(1<<41) + 1<<44
}

func goes(t *testing.T, h api.Head, want uint64) {
	t.Helper()
	if !Good(h) {
		t.Fatalf("Good(%+v) is false", h)
	}
	if w, ok := Pack(h); !ok || w != want {
		t.Fatalf("Pack(%+v) = %#x, %v; want %#x", h, w, ok, want)
	}
	if back, ok := Unpack(want); !ok || back != h {
		t.Fatalf("Unpack(%#x) = %+v, %v; want %+v", want, back, ok, h)
	}
}

func refusedHead(t *testing.T, h api.Head) {
	t.Helper()
	if Good(h) {
		t.Errorf("Good(%+v) is true", h)
	}
	if w, ok := Pack(h); ok || w != 0 {
		t.Errorf("Pack(%+v) = %#x, %v; want 0, false", h, w, ok)
	}
}

func refusedWord(t *testing.T, w uint64) {
	t.Helper()
	if h, ok := Unpack(w); ok || h != (api.Head{}) {
		t.Errorf("Unpack(%#x) = %+v, %v; want no head, false", w, h, ok)
	}
}

func TestOrdinaryHeads(t *testing.T) {
	goes(t, api.Head{Size: 5, Ptrs: 2, Age: 3}, 0x0000100300020005)
	goes(t, api.Head{Size: 1, Ptrs: 1, Parity: 1, Grey: true}, 0x0000130000010001)
	goes(t, api.Head{Size: 40, Ptrs: 7, Age: 6, Noted: true, Old: true}, 0x00001c0600070028)
}

func TestEdgesOfHeads(t *testing.T) {
	goes(t, api.Head{}, 1<<44)
	goes(t, api.Head{Size: api.MaxFields}, 1<<44|64)
	goes(t, api.Head{Size: api.MaxFields, Ptrs: api.MaxFields}, 1<<44|64<<16|64)
	goes(t, api.Head{Size: 1, Ptrs: 1}, 1<<44|1<<16|1)
	goes(t, api.Head{Age: api.MaxAge}, 1<<44|7<<32)
	goes(t, api.Head{Parity: 1}, 1<<44|1<<40)
	goes(t, api.Head{Grey: true}, 1<<44|1<<41)
	goes(t, api.Head{Noted: true}, 1<<44|1<<42)
	goes(t, api.Head{Old: true}, 1<<44|1<<43)
	goes(t, api.Head{Size: 64, Ptrs: 64, Age: 7, Parity: 1, Grey: true, Noted: true, Old: true}, 0x00001f0700400040)
}

func TestEveryHeadThatMayBe(t *testing.T) {
	for size := range api.MaxFields + 1 {
		for ptrs := range size + 1 {
			for age := range api.MaxAge + 1 {
				for rest := range 16 {
					h := api.Head{Size: size, Ptrs: ptrs, Age: age, Parity: rest & 1, Grey: rest&2 != 0, Noted: rest&4 != 0, Old: rest&8 != 0}
					goes(t, h, word(uint64(size), uint64(ptrs), uint64(age), uint64(rest&1), uint64(rest>>1)))
				}
			}
		}
	}
}

func TestHeadsThatMayNotBe(t *testing.T) {
	for _, n := range []int{-1, -2, -64, math.MinInt32, math.MinInt, math.MaxInt, math.MaxInt32, 1 << 16, 1 << 20} {
		refusedHead(t, api.Head{Size: n})
		refusedHead(t, api.Head{Size: n, Ptrs: n})
		refusedHead(t, api.Head{Size: 64, Ptrs: n})
		refusedHead(t, api.Head{Age: n})
		refusedHead(t, api.Head{Parity: n})
		refusedHead(t, api.Head{Size: n, Ptrs: n, Age: n, Parity: n, Grey: true, Noted: true, Old: true})
	}
	refusedHead(t, api.Head{Size: api.MaxFields + 1})
	refusedHead(t, api.Head{Size: api.MaxFields + 1, Ptrs: api.MaxFields + 1})
	refusedHead(t, api.Head{Size: api.MaxFields, Ptrs: api.MaxFields + 1})
	for size := range api.MaxFields {
		refusedHead(t, api.Head{Size: size, Ptrs: size + 1})
	}
	refusedHead(t, api.Head{Age: api.MaxAge + 1})
	refusedHead(t, api.Head{Age: 1 << 8})
	refusedHead(t, api.Head{Parity: 2})
	refusedHead(t, api.Head{Parity: 3})
}

func TestWordsWithWrongBits(t *testing.T) {
	for _, good := range []uint64{1 << 44, 0x0000100300020005, 0x00001f0700400040} {
		refusedWord(t, good&^(1<<44))
		refusedWord(t, good|^uint64(1<<45-1))
		for bit := 45; bit < 64; bit++ {
			refusedWord(t, good|1<<bit)
			refusedWord(t, good&^(1<<44)|1<<bit)
		}
		for _, bit := range []int{7, 8, 15, 16 + 7, 16 + 8, 31, 32 + 3, 32 + 4, 39} {
			refusedWord(t, good|1<<bit)
		}
	}
	refusedWord(t, 0)
	refusedWord(t, 1)
	refusedWord(t, math.MaxInt64)
	refusedWord(t, 1<<63)
	refusedWord(t, math.MaxUint64)
}

func TestWordsOfWrongNumbers(t *testing.T) {
	for n := uint64(0); n < 1<<16; n++ {
		if n > api.MaxFields {
			refusedWord(t, word(n, 0, 0, 0, 0))
			refusedWord(t, word(n, n, 0, 0, 0))
			refusedWord(t, word(api.MaxFields, n, 0, 0, 0))
		}
		if n > 0 {
			refusedWord(t, word(n-1, n, 0, 0, 0))
		}
		if n > api.MaxAge && n < 1<<8 {
			refusedWord(t, word(0, 0, n, 0, 0))
			refusedWord(t, word(3, 2, n, 1, 7))
		}
	}
}

// Unpack takes a word only if Pack answers just that word.
func FuzzUnpack(f *testing.F) {
	for _, w := range []uint64{0, 1 << 44, 0x00001f0700400040, 0x00001f0700400041, math.MaxUint64} {
		f.Add(w)
	}
	f.Fuzz(func(t *testing.T, w uint64) {
		h, ok := Unpack(w)
		if !ok {
			if h != (api.Head{}) {
				t.Errorf("Unpack(%#x) = %+v beside false", w, h)
			}
			return
		}
		if again, fine := Pack(h); !fine || again != w {
			t.Errorf("Pack(Unpack(%#x)) = %#x, %v", w, again, fine)
		}
	})
}
