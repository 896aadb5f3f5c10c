package obj

import (
	"math"
	"slices"
	"testing"

	"tilth/api"
	"tilth/arena"
)

// model is the words themselves; what stands where is written out by the document's words.
type model []uint64

// filled is an arena and a model with the same words, told by their places: none of them is a head.
func filled(t *testing.T, size int) (*arena.Arena, model) {
	t.Helper()
	a, m := arena.New(size), make(model, size)
	for i := range m {
		m[i] = ^uint64(0) - uint64(i)
		if e := a.Store(i, m[i]); e != api.OK {
			t.Fatal(e)
		}
	}
	return a, m
}

// same: the arena has the model's words, and no others.
func same(t *testing.T, a *arena.Arena, m model) {
	t.Helper()
	got := make(model, a.Len())
	for i := range got {
		got[i], _ = a.Load(i)
	}
	if !slices.Equal(got, m) {
		t.Fatalf("the words are %x, not %x", got, m)
	}
}

// there: n words from at on, and at is a place. The numbers that are added here are small, as the first two conditions hold.
func (m model) there(at, n int) bool {
	return at >= 0 && at <= len(m) && at+n <= len(m)
}

func good(h api.Head) bool {
	return h.Size >= 0 && h.Size <= 64 && h.Ptrs >= 0 && h.Ptrs <= h.Size && h.Age >= 0 && h.Age <= 7 && (h.Parity == 0 || h.Parity == 1)
}

func bit(set bool, n int) uint64 {
	if set {
		return 1 << n
	}
	return 0
}

// word is a head's word, by chapter 1.
func word(h api.Head) uint64 {
	return uint64(h.Size) + uint64(h.Ptrs)<<16 + uint64(h.Age)<<32 + uint64(h.Parity)<<40 + bit(h.Grey, 41) + bit(h.Noted, 42) + bit(h.Old, 43) + 1<<44
}

func (m model) make(at int, h api.Head) api.Errno {
	if !good(h) {
		return api.ErrArg
	}
	if !m.there(at, h.Size+2) {
		return api.ErrRange
	}
	for i := range h.Size {
		m[at+2+i] = 0
	}
	m[at], m[at+1] = word(h), uint64(at)
	return api.OK
}

// set: the word that stands n behind a place is w.
func (m model) set(at, n int, w uint64) api.Errno {
	if at < 0 || at > api.MaxWords || !m.there(at+n, 1) {
		return api.ErrRange
	}
	m[at+n] = w
	return api.OK
}

func (m model) get(at, n int) (uint64, api.Errno) {
	if at < 0 || at > api.MaxWords || !m.there(at+n, 1) {
		return 0, api.ErrRange
	}
	return m[at+n], api.OK
}

func (m model) setHead(at int, h api.Head) api.Errno {
	if !good(h) {
		return api.ErrArg
	}
	return m.set(at, 0, word(h))
}

func (m model) setWay(at, to int) api.Errno {
	if to < 0 || to > api.MaxWords {
		return api.ErrRange
	}
	return m.set(at, 1, uint64(to))
}

func (m model) setField(at, n int, w uint64) api.Errno {
	if n < 0 || n > 63 {
		return api.ErrRange
	}
	return m.set(at, 2+n, w)
}

func (m model) field(at, n int) (uint64, api.Errno) {
	if n < 0 || n > 63 {
		return 0, api.ErrRange
	}
	return m.get(at, 2+n)
}

func (m model) move(from, to int, h api.Head) api.Errno {
	if !good(h) {
		return api.ErrArg
	}
	n := h.Size + 2
	if !m.there(from, n) || !m.there(to, n) {
		return api.ErrRange
	}
	for i, w := range slices.Clone(m[from : from+n]) {
		m[to+i] = w
	}
	m[to], m[to+1] = word(h), uint64(to)
	m[from+1] = uint64(to)
	return api.OK
}

// tells: head, way and fields at a place are as the model's words.
func tells(t *testing.T, a *arena.Arena, m model, at int) {
	t.Helper()
	tellsHead(t, a, m, at)
	way, e := Way(a, at)
	if w, want := m.get(at, 1); e != want || way != int(w) {
		t.Fatalf("Way(%d): %d, %v, not %#x, %v", at, way, e, w, want)
	}
	for _, n := range fields(len(m)) {
		tellsField(t, a, m, at, n)
	}
}

func tellsHead(t *testing.T, a *arena.Arena, m model, at int) {
	t.Helper()
	h, e := Head(a, at)
	w, want := m.get(at, 0)
	if want != api.OK {
		if e != want || h != (api.Head{}) {
			t.Fatalf("Head(%d): %+v, %v, not %v", at, h, e, want)
		}
		return
	}
	switch e {
	case api.OK:
		if !good(h) || word(h) != w {
			t.Fatalf("Head(%d): %+v, of %#x", at, h, w)
		}
	case api.ErrArg:
		if h != (api.Head{}) || isWord(w) {
			t.Fatalf("Head(%d): %+v and ErrArg, of %#x", at, h, w)
		}
	default:
		t.Fatalf("Head(%d): %v", at, e)
	}
}

// isWord: is there a head whose word this is?
func isWord(w uint64) bool {
	size, ptrs, age := w&0xffff, w>>16&0xffff, w>>32&0xff
	return w>>44 == 1 && size <= 64 && ptrs <= size && age <= 7
}

func tellsField(t *testing.T, a *arena.Arena, m model, at, n int) {
	t.Helper()
	w, e := Field(a, at, n)
	if want, as := m.field(at, n); w != want || e != as {
		t.Fatalf("Field(%d, %d): %#x, %v, not %#x, %v", at, n, w, e, want, as)
	}
}

// places are all around an arena of so many words, and those far from it.
func places(size int) []int {
	list := []int{math.MinInt, math.MinInt + 1, math.MinInt32, -66, -65, -64, -3, math.MaxInt32, api.MaxWords - 1, api.MaxWords, api.MaxWords + 1, math.MaxInt - 65, math.MaxInt - 1, math.MaxInt}
	for at := -2; at <= size+2; at++ {
		list = append(list, at)
	}
	return list
}

// fields are those around both ends, and those far from them.
func fields(size int) []int {
	list := []int{math.MinInt, math.MinInt32, -64, math.MaxInt32, api.MaxWords, math.MaxInt - 1, math.MaxInt, 62, 63, 64, 65}
	for n := -3; n <= size; n++ {
		list = append(list, n)
	}
	return list
}

// FuzzRow goes through a row of calls, four bytes each, and holds each one against the model.
func FuzzRow(f *testing.F) {
	f.Add(uint8(30), []byte{0, 4, 3, 2, 5, 4, 1, 77, 2, 4, 20, 0x33, 1, 4, 2, 1, 3, 4, 20, 9, 4, 20, 1, 7})
	f.Add(uint8(140), []byte{0, 0, 64, 9, 2, 0, 70, 64, 2, 70, 1, 64, 0, 75, 64, 1})
	f.Add(uint8(0), []byte{0, 0, 0, 0, 2, 0, 0, 0, 1, 255, 0, 0})
	f.Fuzz(func(t *testing.T, size uint8, row []byte) {
		a, m := filled(t, int(size))
		for row = row[:min(len(row), 200)]; len(row) >= 4; row = row[4:] {
			one(t, a, m, [4]byte(row))
		}
	})
}

// one: a call of both.
func one(t *testing.T, a *arena.Arena, m model, c [4]byte) {
	t.Helper()
	at, n, x := int(int8(c[1])), int(int8(c[2])), int(int8(c[3]))
	h := api.Head{Size: n, Ptrs: x, Age: int(c[0] >> 4), Parity: int(c[0] >> 3 & 1), Grey: x&1 != 0, Noted: x&2 != 0, Old: x&4 != 0}
	var got, want api.Errno
	switch c[0] % 5 {
	case 0:
		got, want = Make(a, at, h), m.make(at, h)
	case 1:
		got, want = SetHead(a, at, h), m.setHead(at, h)
	case 2:
		h.Size, h.Ptrs = x, n
		if n > x {
			h.Ptrs = 0
		}
		got, want = Move(a, at, n, h), m.move(at, n, h)
	case 3:
		got, want = SetWay(a, at, n), m.setWay(at, n)
	default:
		got, want = SetField(a, at, n, uint64(x)), m.setField(at, n, uint64(x))
	}
	if got != want {
		t.Fatalf("%v: %v, not %v", c, got, want)
	}
	same(t, a, m)
	tells(t, a, m, at)
}
