package obj

import (
	"math"
	"testing"

	"tilth/api"
	"tilth/arena"
)

// heads may be; each part is at its ends once.
func heads() []api.Head {
	return []api.Head{
		{},
		{Age: api.MaxAge, Parity: 1, Grey: true, Noted: true, Old: true},
		{Size: 1, Ptrs: 1, Parity: 1},
		{Size: 1, Grey: true},
		{Size: 2, Ptrs: 1, Age: 3, Noted: true},
		{Size: 3, Ptrs: 2, Age: 1, Old: true},
		{Size: 64, Ptrs: 64, Age: 7},
		{Size: 64},
	}
}

// bad may not be, by chapter 1.
func bad() []api.Head {
	return []api.Head{
		{Ptrs: 1}, {Size: 2, Ptrs: 3}, {Size: -1}, {Size: 65}, {Size: 3, Ptrs: -1},
		{Age: 8}, {Age: -1}, {Parity: 2}, {Parity: -1},
		{Size: math.MinInt}, {Size: math.MaxInt}, {Size: math.MaxInt, Ptrs: math.MaxInt}, {Age: math.MaxInt}, {Parity: math.MinInt},
	}
}

func is(t *testing.T, what string, got, want api.Errno) {
	t.Helper()
	if got != want {
		t.Fatalf("%s: %v, not %v", what, got, want)
	}
}

func TestWords(t *testing.T) {
	for _, c := range [][2]int{
		{0, 2}, {1, 3}, {2, 4}, {63, 65}, {64, 66},
		{-1, 2}, {-4, 2}, {math.MinInt, 2}, {65, 66}, {99, 66}, {math.MaxInt - 1, 66}, {math.MaxInt, 66},
	} {
		for _, h := range []api.Head{{Size: c[0]}, {Size: c[0], Ptrs: 40, Age: -3, Parity: 9, Grey: true, Old: true}} {
			if got := Words(h); got != c[1] {
				t.Errorf("Words(%+v) = %d, not %d", h, got, c[1])
			}
		}
	}
}

// An object's words, one by one: those around it stay.
func TestMakeWritesItsWordsOnly(t *testing.T) {
	a, m := filled(t, 9)
	is(t, "Make", Make(a, 2, api.Head{Size: 3, Ptrs: 2, Age: 5, Parity: 1, Noted: true}), api.OK)
	m[2], m[3], m[4], m[5], m[6] = 0x150500020003, 2, 0, 0, 0
	same(t, a, m)
	is(t, "SetField", SetField(a, 2, 0, 70), api.OK)
	is(t, "SetField", SetField(a, 2, 2, math.MaxUint64), api.OK)
	is(t, "SetWay", SetWay(a, 2, 8), api.OK)
	is(t, "SetHead", SetHead(a, 2, api.Head{Size: 1}), api.OK)
	m[2], m[3], m[4], m[6] = 0x100000000001, 8, 70, math.MaxUint64
	same(t, a, m)
}

// Every place around small arenas, and the ends of int, with heads that may be.
func TestMake(t *testing.T) {
	for _, size := range []int{0, 1, 2, 3, 7, 67} {
		for _, at := range places(size) {
			for _, h := range heads() {
				a, m := filled(t, size)
				is(t, "Make", Make(a, at, h), m.make(at, h))
				same(t, a, m)
				tells(t, a, m, at)
			}
		}
	}
}

func TestSetHead(t *testing.T) {
	for _, size := range []int{0, 1, 4} {
		for _, at := range places(size) {
			for _, h := range heads() {
				a, m := filled(t, size)
				is(t, "SetHead", SetHead(a, at, h), m.setHead(at, h))
				same(t, a, m)
				tells(t, a, m, at)
			}
		}
	}
}

// Whatever the word, it is the head that Pack makes it of, or ErrArg.
func TestHeadOfAnyWord(t *testing.T) {
	a := arena.New(2)
	for _, w := range []uint64{
		0, 1, 1 << 44, 1<<44 + 64, 1<<44 + 65, 1<<44 + 64 + 64<<16, 1<<44 + 64 + 65<<16, 1<<44 + 1<<16,
		1<<44 + 7<<32, 1<<44 + 8<<32, 1<<45 - 1, 1<<44 + 15<<40, 1<<45 + 1<<44, 1<<63 + 1<<44, 1 << 63, math.MaxUint64,
	} {
		is(t, "Store", a.Store(1, w), api.OK)
		tellsHead(t, a, model{0, w}, 1)
	}
}

func TestHeadsThatMayNotBe(t *testing.T) {
	for _, h := range bad() {
		a, m := filled(t, 6)
		// ErrArg of heads is ahead of all that places come to.
		for _, at := range places(6) {
			is(t, "Make", Make(a, at, h), api.ErrArg)
			is(t, "SetHead", SetHead(a, at, h), api.ErrArg)
			is(t, "Move", Move(a, at, 1, h), api.ErrArg)
			is(t, "Move", Move(a, 1, at, h), api.ErrArg)
		}
		same(t, a, m)
	}
}

// Ways are places, and those are from 0 to MaxWords, however few words the arena has.
func TestSetWay(t *testing.T) {
	for _, size := range []int{0, 1, 2, 5} {
		for _, at := range places(size) {
			for _, to := range places(size) {
				a, m := filled(t, size)
				is(t, "SetWay", SetWay(a, at, to), m.setWay(at, to))
				same(t, a, m)
				tells(t, a, m, at)
			}
		}
	}
}

func TestWayIsTheWordAsANumber(t *testing.T) {
	a := arena.New(3)
	for _, w := range []int{0, 1, api.MaxWords, api.MaxWords + 1, math.MaxInt, math.MinInt, -1} {
		is(t, "Store", a.Store(2, uint64(w)), api.OK)
		if got, e := Way(a, 1); got != w || e != api.OK {
			t.Errorf("Way of %#x: %d, %v", uint64(w), got, e)
		}
	}
}

// A field is one by its number, whatever the head at the place says.
func TestSetField(t *testing.T) {
	for _, size := range []int{0, 2, 3, 5, 66, 70} {
		for _, at := range places(size) {
			for _, n := range fields(size) {
				a, m := filled(t, size)
				is(t, "SetField", SetField(a, at, n, 77), m.setField(at, n, 77))
				same(t, a, m)
				tellsField(t, a, m, at, n)
			}
		}
	}
}

func TestMove(t *testing.T) {
	a, m := filled(t, 12)
	h, k := api.Head{Size: 2, Ptrs: 1, Age: 1}, api.Head{Size: 2, Ptrs: 1, Age: 2, Old: true}
	is(t, "Make", Make(a, 1, h), api.OK)
	is(t, "SetField", SetField(a, 1, 0, 40), api.OK)
	is(t, "SetField", SetField(a, 1, 1, 41), api.OK)
	is(t, "Move", Move(a, 1, 7, k), api.OK)
	copy(m[1:], []uint64{word(h), 7, 40, 41})
	copy(m[7:], []uint64{word(k), 7, 40, 41})
	same(t, a, m)
	// The words are those of the head that is handed in, not of the one that stands there.
	is(t, "Move", Move(a, 7, 1, api.Head{Size: 1}), api.OK)
	copy(m[1:], []uint64{word(api.Head{Size: 1}), 1, 40, 41})
	m[8] = 1
	same(t, a, m)
	// An object that is moved to where it is gets its head.
	is(t, "Move", Move(a, 7, 7, h), api.OK)
	copy(m[7:], []uint64{word(h), 7, 40, 41})
	same(t, a, m)
}

// Every pair of places around small arenas: apart, the same, side by side, overlapping either way, and not there.
func TestMoveFromAndToAnywhere(t *testing.T) {
	for _, size := range []int{0, 1, 2, 4, 9} {
		for _, from := range places(size) {
			for _, to := range places(size) {
				for _, h := range heads() {
					a, m := filled(t, size)
					is(t, "Move", Move(a, from, to, h), m.move(from, to, h))
					same(t, a, m)
				}
			}
		}
	}
}

func TestNoArena(t *testing.T) {
	for _, at := range places(3) {
		tells(t, nil, nil, at)
		is(t, "Make", Make(nil, at, api.Head{}), api.ErrRange)
		is(t, "SetHead", SetHead(nil, at, api.Head{}), api.ErrRange)
		is(t, "SetWay", SetWay(nil, at, 0), api.ErrRange)
		is(t, "SetField", SetField(nil, at, 0, 1), api.ErrRange)
		is(t, "Move", Move(nil, at, 0, api.Head{}), api.ErrRange)
		is(t, "Move", Move(nil, at, at, api.Head{Age: 8}), api.ErrArg)
	}
}

// The greatest arena: its last words may be an object, and none begins at its end.
func TestGreatestArena(t *testing.T) {
	a := arena.New(api.MaxWords)
	h := api.Head{Size: 64, Ptrs: 64}
	const last = api.MaxWords - 66
	is(t, "Make", Make(a, last+1, h), api.ErrRange)
	is(t, "Make", Make(a, last, h), api.OK)
	is(t, "SetField", SetField(a, last, 63, 5), api.OK)
	is(t, "SetField", SetField(a, last+1, 63, 5), api.ErrRange)
	is(t, "Move", Move(a, last, last+1, h), api.ErrRange)
	is(t, "Move", Move(a, last+1, 0, h), api.ErrRange)
	is(t, "Move", Move(a, last, 0, h), api.OK)
	if w, e := Field(a, 0, 63); w != 5 || e != api.OK {
		t.Error(w, e)
	}
	is(t, "SetWay", SetWay(a, 0, api.MaxWords), api.OK)
	is(t, "SetWay", SetWay(a, api.MaxWords-2, 0), api.OK)
	is(t, "SetWay", SetWay(a, api.MaxWords-1, 0), api.ErrRange)
	is(t, "SetHead", SetHead(a, api.MaxWords-1, h), api.OK)
	is(t, "SetHead", SetHead(a, api.MaxWords, h), api.ErrRange)
	if got, e := Head(a, api.MaxWords-1); got != h || e != api.OK {
		t.Error(got, e)
	}
}
