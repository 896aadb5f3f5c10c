package core

import (
	"math"
	"testing"

	"tilth/api"
)

// handles is those of shapes: 0 and 1 hold objects, 2 the one that 0 holds, 3 one without fields, 4 and 5 nothing; all others are none.
var handles = append([]int{0, 1, 2, 3, 4, 5, 6, 7, 63, 64}, far...)

// fields is numbers of fields, and those around them.
var fields = append([]int{0, 1, 2, 3, 4, 5, 6, 7, 63, 64}, far...)

// shapes is a core whose handles hold objects of several shapes.
func shapes(t *testing.T) *Core {
	t.Helper()
	c := fresh(t, plain())
	makes(t, c, 0, 2, 3)
	makes(t, c, 1, 1, 0)
	makes(t, c, 3, 0, 0)
	is(t, c.Copy(2, 0), api.OK)
	is(t, c.Set(0, 1, 1), api.OK)
	is(t, c.Set(1, 0, 0), api.OK)
	for n := range 3 {
		is(t, c.Write(0, n, uint64(100+n)), api.OK)
	}
	return c
}

// shape: how many references and scalars the object has that a handle of shapes holds; the error, if there is none.
func shape(h int) (ptrs, scalars int, e api.Errno) {
	switch h {
	case 0, 2:
		return 2, 3, api.OK
	case 1:
		return 1, 0, api.OK
	case 3:
		return 0, 0, api.OK
	case 4, 5:
		return 0, 0, api.ErrNil
	}
	return 0, 0, api.ErrHandle
}

// first: the first of them that is an error.
func first(list ...api.Errno) api.Errno {
	for _, e := range list {
		if e != api.OK {
			return e
		}
	}
	return api.OK
}

func isHandle(h int) api.Errno {
	if h < 0 || h > 5 {
		return api.ErrHandle
	}
	return api.OK
}

func below(n, count int) api.Errno {
	if n < 0 || n >= count {
		return api.ErrField
	}
	return api.OK
}

// Of every call with every kind of wrong number the error is the one that is named first, and nothing is changed beside it.
func TestHandleErrors(t *testing.T) {
	for _, h := range handles {
		ptrs, scalars, e := shape(h)
		for _, n := range fields {
			fails(t, first(e, below(n, scalars)), func(c *Core) api.Errno { w, e := c.Read(h, n); none(t, w, e); return e })
			fails(t, first(e, below(n, scalars)), func(c *Core) api.Errno { return c.Write(h, n, 7) })
			for _, other := range handles {
				fails(t, first(e, isHandle(other), below(n, ptrs)), func(c *Core) api.Errno { return c.Get(other, h, n) })
				fails(t, first(e, isHandle(other), below(n, ptrs)), func(c *Core) api.Errno { return c.Set(h, n, other) })
			}
		}
		fails(t, e, func(c *Core) api.Errno { p, s, e := c.Shape(h); none(t, uint64(p|s), e); return e })
		fails(t, isHandle(h), func(c *Core) api.Errno { return c.Clear(h) })
		fails(t, isHandle(h), func(c *Core) api.Errno { yes, e := c.Nil(h); none(t, yes, e); return e })
		for _, other := range handles {
			fails(t, first(isHandle(h), isHandle(other)), func(c *Core) api.Errno { return c.Copy(h, other) })
			fails(t, first(isHandle(h), isHandle(other)), func(c *Core) api.Errno { yes, e := c.Same(h, other); none(t, yes, e); return e })
		}
	}
}

// fails: the call answers want; if that is an error, it changes nothing.
func fails(t *testing.T, want api.Errno, call func(c *Core) api.Errno) {
	t.Helper()
	c := shapes(t)
	if want == api.OK {
		is(t, call(c), want)
		return
	}
	still(t, c, "the call", func() { is(t, call(c), want) })
}

// none: beside an error it is zero.
func none[T comparable](t *testing.T, got T, e api.Errno) {
	t.Helper()
	var zero T
	if e != api.OK && got != zero {
		t.Fatalf("%v beside %d", got, e)
	}
}

func TestShapes(t *testing.T) {
	c := shapes(t)
	still(t, c, "Shape", func() {
		for h := range 4 {
			p, s, e := c.Shape(h)
			is(t, e, api.OK)
			ptrs, scalars, _ := shape(h)
			same(t, "Shape", [2]int{p, s}, [2]int{ptrs, scalars})
		}
	})
}

func TestReadAndWrite(t *testing.T) {
	c := shapes(t)
	words := []uint64{0, 1, 42, 1 << 20, 1 << 44, 1<<44 | 1<<40, math.MaxInt64, math.MaxUint64 - 1, math.MaxUint64}
	for i := range words {
		for n := range 3 {
			is(t, c.Write(0, n, words[(i+n)%len(words)]), api.OK)
		}
		still(t, c, "Read", func() {
			for n := range 3 {
				w, e := c.Read(2, n) // the same object
				is(t, e, api.OK)
				same(t, "Read", w, words[(i+n)%len(words)])
			}
		})
	}
	at := holds(t, c, 0)
	same(t, "a reference", fieldOf(t, c, at, 0), 0)
	same(t, "a reference", fieldOf(t, c, at, 1), uint64(holds(t, c, 1)))
	same(t, "the word behind", headOf(t, c, at+7), api.Head{Size: 1, Ptrs: 1})
	is(t, c.Write(0, 1, 9), api.OK)
	same(t, "a scalar", fieldOf(t, c, at, 3), 9)
}

func TestGetAndSet(t *testing.T) {
	c := shapes(t)
	at, other := holds(t, c, 0), holds(t, c, 1)
	is(t, c.Get(4, 0, 1), api.OK)
	lists(t, "handles", c.Table.All(), at, other, at, holds(t, c, 3), other, 0)
	is(t, c.Get(4, 4, 0), api.OK) // the handle that it is asked of may be the one that holds it
	lists(t, "handles", c.Table.All(), at, other, at, holds(t, c, 3), at, 0)
	is(t, c.Get(4, 4, 0), api.OK) // a reference that is none
	lists(t, "handles", c.Table.All(), at, other, at, holds(t, c, 3), 0, 0)
	is(t, c.Set(0, 0, 0), api.OK) // an object may refer to itself
	same(t, "a reference", fieldOf(t, c, at, 0), uint64(at))
	is(t, c.Set(2, 1, 5), api.OK) // what holds nothing makes it none
	same(t, "a reference", fieldOf(t, c, at, 1), 0)
	same(t, "a reference", fieldOf(t, c, at, 0), uint64(at))
	same(t, "Noted", headOf(t, c, at).Noted, false) // a young one need not be
	same(t, "Len", c.Rem.Len(), 0)
	same(t, "Grey", c.Grey.Len(), 0)
	is(t, c.Get(5, 0, 1), api.OK)
	same(t, "handle 5", holds(t, c, 5), 0)
}

func TestHandles(t *testing.T) {
	c := shapes(t)
	at, other := holds(t, c, 0), holds(t, c, 1)
	same(t, "what 2 holds", holds(t, c, 2), at)
	for a, x := range c.Table.All() {
		for b, y := range c.Table.All() {
			yes, e := c.Same(a, b)
			is(t, e, api.OK)
			same(t, "Same", yes, x == y)
		}
		yes, e := c.Nil(a)
		is(t, e, api.OK)
		same(t, "Nil", yes, a > 3)
	}
	is(t, c.Clear(0), api.OK)
	is(t, c.Clear(0), api.OK) // what holds nothing may be cleared
	is(t, c.Copy(5, 1), api.OK)
	is(t, c.Copy(2, 2), api.OK)
	is(t, c.Copy(3, 4), api.OK)
	lists(t, "handles", c.Table.All(), 0, other, at, 0, 0, other)
	is(t, c.Copy(2, 5), api.OK)
	lists(t, "handles", c.Table.All(), 0, other, other, 0, 0, other)
}

// What Get answers is no place of the half that is emptied; the reference is left as it is.
func TestGetMoves(t *testing.T) {
	c := shapes(t)
	at, other := holds(t, c, 0), holds(t, c, 1)
	flips(t, c)
	is(t, c.Table.Set(0, c.Move(at)), api.OK)
	is(t, c.Get(4, 0, 1), api.OK)
	lists(t, "handles", c.Table.All()[3:], holds(t, c, 3), 48, 0)
	same(t, "the way", wayOf(t, c, other), 48)
	same(t, "the reference", fieldOf(t, c, 41, 1), uint64(other))
	same(t, "Copied", c.Copied, 10)
	is(t, c.Get(5, 0, 1), api.OK) // it was moved ahead: that is where it is
	same(t, "handle 5", holds(t, c, 5), 48)
	same(t, "Copied", c.Copied, 10)
	is(t, c.Get(5, 5, 0), api.OK)
	same(t, "handle 5", holds(t, c, 5), 41)
}

// What Get answers while a major cycle marks is found, wherever it is.
func TestGetMarks(t *testing.T) {
	for _, moving := range []bool{false, true} {
		c := shapes(t)
		at, other := holds(t, c, 0), holds(t, c, 1)
		if moving {
			flips(t, c)
			is(t, c.Table.Set(0, c.Move(at)), api.OK)
		}
		marks(c)
		is(t, c.Get(4, 0, 1), api.OK)
		got := holds(t, c, 4)
		same(t, "is it elsewhere", got != other, moving)
		same(t, "Parity", headOf(t, c, got).Parity, 1)
		same(t, "Grey", headOf(t, c, got).Grey, true)
		lists(t, "Grey", c.Grey.All(), got)
		is(t, c.Get(4, 0, 1), api.OK)
		is(t, c.Get(4, 0, 0), api.OK) // none is not found
		lists(t, "Grey", c.Grey.All(), got)
		same(t, "Lost", c.Grey.Lost(), false)
	}
}

// An old object is noted when it refers to a young one, once.
func TestSetNotes(t *testing.T) {
	c := fresh(t, plain())
	old := func(h, ptrs int) int { makes(t, c, h, ptrs, 0); ages(t, c, 2); return holds(t, c, h) }
	a, b := old(0, 2), old(1, 1)
	young := makes(t, c, 2, 1, 0)
	same(t, "are they old", [3]bool{a >= 81, b >= 81, young >= 81}, [3]bool{true, true, false})
	for _, x := range []struct{ h, n, from, noted int }{
		{0, 0, 1, 0}, // an old one
		{0, 0, 5, 0}, // none
		{2, 0, 2, 0}, // a young one, into a young one
		{2, 0, 0, 0}, // an old one, into a young one
		{0, 0, 2, 1},
		{0, 1, 2, 1}, // it is Noted
		{0, 0, 1, 1}, // it stays so
		{0, 1, 5, 1},
		{1, 0, 2, 2},
	} {
		is(t, c.Set(x.h, x.n, x.from), api.OK)
		same(t, "Len", c.Rem.Len(), x.noted)
		same(t, "Noted", headOf(t, c, a).Noted, x.noted > 0)
		same(t, "Noted", headOf(t, c, b).Noted, x.noted > 1)
		same(t, "Noted", headOf(t, c, young).Noted, false)
	}
	c.Rem.Flip()
	from, _, part, _ := c.Rem.Next()
	same(t, "the first", from, a)
	same(t, "part", part, false)
	from, to, part, _ := c.Rem.Next() // the buffer has room for one
	same(t, "part", part, true)
	same(t, "the card", from <= b && b < to, true)
}

// The heaviest of these calls ask for at most 4 Largest and 40 words.
func TestWordsAsked(t *testing.T) {
	for _, largest := range []int{1, 6, 64} {
		x := plain()
		x.Nursery, x.Largest = 300, largest
		c := fresh(t, x)
		makes(t, c, 0, 1, largest-1)
		makes(t, c, 1, largest, 0)
		is(t, c.Set(0, 0, 1), api.OK)
		flips(t, c)
		is(t, c.Table.Set(0, c.Move(holds(t, c, 0))), api.OK)
		is(t, c.Clear(1), api.OK)
		marks(c)
		for i, call := range []func() api.Errno{
			func() api.Errno { return c.Get(2, 0, 0) },
			func() api.Errno { return c.Set(2, 0, 0) },
			func() api.Errno { return c.Copy(3, 2) },
			func() api.Errno { _, e := c.Same(3, 2); return e },
			func() api.Errno { _, _, e := c.Shape(2); return e },
			func() api.Errno { return c.Clear(2) },
		} {
			ahead := c.Arena.Count()
			is(t, call(), api.OK)
			if n := c.Arena.Count() - ahead; n > 4*largest+40 {
				t.Errorf("call %d, Largest %d: %d words", i, largest, n)
			}
		}
	}
}
