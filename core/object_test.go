package core

import (
	"math"
	"slices"
	"testing"

	"tilth/api"
	"tilth/obj"
)

// Where the objects of a scene are.
const (
	elder   = 81 // was old ahead
	ripe    = 41 // was moved, as it was old enough, to
	grown   = 85
	unripe  = 45 // was moved, as it was not, to
	moved   = 1
	waiting = 51 // was not moved
	late    = 7  // was made since
)

// cameTo: where an object is, of which this is a place.
func cameTo(at int) (int, bool) {
	switch at {
	case ripe:
		return grown, true
	case unripe:
		return moved, true
	case elder, grown, moved, waiting, late:
		return at, true
	}
	return at, false
}

// scene is a core amid a minor cycle. Its objects have references, and scalars that are just like heads.
func scene(t *testing.T) *Core {
	t.Helper()
	c := fresh(t, plain())
	makes(t, c, 0, 1, 1)
	ages(t, c, 2)
	makes(t, c, 1, 1, 1)
	ages(t, c, 1)
	makes(t, c, 2, 2, 2)
	makes(t, c, 3, 3, 0)
	for h, scalars := range []int{1, 1, 2, 0} {
		is(t, c.Set(h, 0, 1), api.OK)
		for n := range scalars {
			is(t, c.Write(h, n, likeHead(t, n)), api.OK)
		}
	}
	heads(t, c, elder, func(h *api.Head) { h.Noted = false })
	c.Rem.Flip()
	for c.Rem.Left() > 0 {
		c.Rem.Next()
	}
	flips(t, c)
	same(t, "the elder one", holds(t, c, 0), elder)
	same(t, "the one that is not moved", holds(t, c, 3), waiting)
	is(t, c.Clear(3), api.OK)
	same(t, "the places", [2]int{holds(t, c, 1), holds(t, c, 2)}, [2]int{ripe, unripe})
	follow(t, c)
	lists(t, "handles", c.Table.All(), elder, grown, moved, 0, 0, 0)
	same(t, "the late one", makes(t, c, 4, 1, 2), late)
	return c
}

// everywhere: all places of a core's arena, those around it and those far from it.
func everywhere(c *Core) []int {
	list := slices.Clone(far)
	for at := -3; at < c.Arena.Len()+3; at++ {
		list = append(list, at)
	}
	return list
}

func TestNow(t *testing.T) {
	c := scene(t)
	still(t, c, "Now", func() {
		for _, at := range everywhere(c) {
			if want, _ := cameTo(at); c.Now(at) != want {
				t.Errorf("Now(%d): %d, not %d", at, c.Now(at), want)
			}
		}
	})
	drops(c)
	for _, at := range everywhere(c) {
		same(t, "Now, of no half", c.Now(at), at)
	}
}

// What is no object of the half that is emptied, or was moved ahead, is not moved.
func TestMoveWhatDoesNotMove(t *testing.T) {
	c := scene(t)
	still(t, c, "Move", func() {
		for _, at := range everywhere(c) {
			if at == waiting {
				continue
			}
			if want, _ := cameTo(at); c.Move(at) != want {
				t.Errorf("Move(%d): %d, not %d", at, c.Move(at), want)
			}
		}
	})
	same(t, "Move", c.Move(waiting), 12)
	same(t, "Now", c.Now(waiting), 12)
	still(t, c, "Move", func() { same(t, "Move", c.Move(waiting), 12) })
	drops(c)
	still(t, c, "Move", func() {
		for _, at := range everywhere(c) {
			same(t, "Move, of no half", c.Move(at), at)
		}
	})
}

// Where something went is told even when it was freed since.
func TestMoveToWhatIsFree(t *testing.T) {
	c := scene(t)
	same(t, "Give", c.Old.Give(grown), true)
	still(t, c, "Move", func() {
		same(t, "Move", c.Move(ripe), grown)
		same(t, "Now", c.Now(ripe), grown)
	})
}

// An object is moved again and again, with all its words, till it is old, if there are pages.
func TestMoveAges(t *testing.T) {
	for tenure := 1; tenure <= api.MaxAge; tenure++ {
		for _, pages := range []int{0, 4} {
			x := aged(tenure)
			x.Pages, x.MajorAt = pages, 0
			c := fresh(t, x)
			at := makes(t, c, 0, 2, 3)
			is(t, c.Set(0, 1, 0), api.OK)
			is(t, c.Write(0, 0, 5), api.OK)
			is(t, c.Write(0, 2, math.MaxUint64), api.OK)
			for times := 1; times < 12; times++ {
				flips(t, c)
				want := api.Head{Size: 5, Ptrs: 2, Age: min(times, api.MaxAge), Old: times >= tenure && pages > 0}
				at = moves(t, c, at, want)
				drops(c)
				if want.Old {
					break
				}
			}
			same(t, "old", at == 81, pages > 0)
		}
	}
}

// moves: an object is moved, and has this head then; where it is.
func moves(t *testing.T, c *Core, at int, want api.Head) int {
	t.Helper()
	ahead, words := see(c), obj.Words(want)
	left, promoted := headOf(t, c, at), c.Done.Promoted
	to := c.Move(at)
	same(t, "the head", headOf(t, c, to), want)
	same(t, "the head that was left", headOf(t, c, at), left)
	same(t, "the ways", [2]int{wayOf(t, c, at), wayOf(t, c, to)}, [2]int{to, to})
	for n := range want.Size {
		same(t, "a field", fieldOf(t, c, to, n), ahead.Words[at+2+n])
	}
	begin, _ := c.Young.Begin()
	same(t, "Copied", c.Copied, ahead.Rest.Copied+words)
	if want.Old {
		lists(t, "Row", c.Row, append(ahead.Rest.Row, to)...)
		same(t, "Promoted", c.Done.Promoted, promoted+words)
		same(t, "Used", c.Young.Used(), ahead.Halves[2])
		size, ok := c.Old.Size(to)
		same(t, "is there room for it", ok && size >= words, true)
		return to
	}
	lists(t, "Row", c.Row, ahead.Rest.Row...)
	same(t, "Promoted", c.Done.Promoted, promoted)
	same(t, "Used", c.Young.Used(), ahead.Halves[2]+words)
	same(t, "the place", to, begin+ahead.Halves[2])
	lists(t, "what is old", c.Old.Starts(0, api.MaxWords), ahead.Starts...)
	return to
}

// What is old stands in Row in the order in which it was moved, behind what stands there.
func TestMoveIntoRow(t *testing.T) {
	x := aged(1)
	x.Largest, x.MinorAt = 20, 0
	c := fresh(t, x)
	var list []int
	for h, fields := range []int{2, 20, 0, 6} {
		list = append(list, makes(t, c, h, 0, fields))
	}
	flips(t, c)
	c.Row = []int{5}
	for i, n := range []int{1, 3, 0, 2} {
		fields := []int{20, 6, 2, 0}[i]
		same(t, "the place", moves(t, c, list[n], api.Head{Size: fields, Age: 1, Old: true}), []int{81, 113, 129, 133}[i])
	}
	lists(t, "Row", c.Row, 5, 81, 113, 129, 133)
	same(t, "Promoted", c.Done.Promoted, 36)
	same(t, "Copied", c.Copied, 36)
}

// What is old enough, but finds no room among what is old, stays young, till there is some.
func TestMoveWithoutRoom(t *testing.T) {
	x := aged(1)
	x.Pages = 1
	c := fresh(t, x)
	for h := range 3 {
		makes(t, c, h, 0, 6)
	}
	flips(t, c)
	for h, at := range c.Table.All()[:3] {
		to := moves(t, c, at, api.Head{Size: 6, Age: 1, Old: h < 2})
		is(t, c.Table.Set(h, to), api.OK)
	}
	drops(c)
	lists(t, "handles", c.Table.All(), 81, 89, 41, 0, 0, 0)
	flips(t, c)
	is(t, c.Table.Set(2, moves(t, c, 41, api.Head{Size: 6, Age: 2})), api.OK)
	drops(c)
	c.Old.Give(89)
	c.Old.Pend() // what is to be swept has no room for what is new
	flips(t, c)
	is(t, c.Table.Set(2, moves(t, c, 1, api.Head{Size: 6, Age: 3})), api.OK)
	drops(c)
	c.Old.Done(0)
	flips(t, c)
	same(t, "the place", moves(t, c, 41, api.Head{Size: 6, Age: 4, Old: true}), 89)
}

// While a major cycle marks, a move changes nothing of what it knows; at other times nothing is to be found.
func TestMovePhases(t *testing.T) {
	for bits := range 1 << 4 {
		for _, phase := range []int{api.Idle, api.Marks, api.Sweep} {
			c := fresh(t, aged(1+bits&1))
			at := makes(t, c, 0, 1, 1)
			c.Phase, c.Parity = phase, bits>>1&1
			heads(t, c, at, func(h *api.Head) { h.Parity, h.Grey = bits>>2&1, bits>>3&1 == 1 })
			flips(t, c)
			want := api.Head{Size: 2, Ptrs: 1, Age: 1, Old: bits&1 == 0, Parity: c.Parity}
			if phase == api.Marks {
				want.Parity, want.Grey = bits>>2&1, bits>>3&1 == 1
			}
			moves(t, c, at, want)
			same(t, "Grey", c.Grey.Len(), 0)
		}
	}
}

// Only while a major cycle marks something is found.
func TestMarkInOtherPhases(t *testing.T) {
	for _, phase := range []int{api.Idle, api.Sweep, -1, 3} {
		c := scene(t)
		marks(c)
		c.Phase = phase
		still(t, c, "Mark", func() {
			for _, at := range everywhere(c) {
				c.Mark(at)
			}
		})
	}
}

// What is an object is found where it is now, once; what is none is not.
func TestMark(t *testing.T) {
	for _, at := range everywhere(scene(t)) {
		c := scene(t)
		heads(t, c, grown, func(h *api.Head) { h.Noted = true }) // what else is known of it stays
		marks(c)
		to, ok := cameTo(at)
		if !ok {
			still(t, c, "Mark", func() { c.Mark(at) })
			continue
		}
		ahead := see(c)
		want := headOf(t, c, to)
		want.Parity, want.Grey = 1, true
		c.Mark(at)
		same(t, "the head", headOf(t, c, to), want)
		lists(t, "Grey", c.Grey.All(), to)
		still(t, c, "Mark", func() { c.Mark(at); c.Mark(to) })
		heads(t, c, to, func(h *api.Head) { h.Parity, h.Grey = 0, false })
		c.Grey.Pop()
		if behind := see(c); !slices.Equal(behind.Words, ahead.Words) {
			t.Fatalf("Mark(%d): other words", at)
		}
	}
}

// What was freed, or was left in a half that is empty, is no object, though its words stand there still.
func TestMarkWhatIsGone(t *testing.T) {
	c := scene(t)
	marks(c)
	same(t, "Give", c.Old.Give(elder), true)
	drops(c)
	still(t, c, "Mark", func() {
		for _, at := range []int{elder, ripe, unripe, waiting} {
			c.Mark(at)
		}
	})
}

// What has no room on the stack is found likewise, and the stack is told.
func TestMarkWithoutRoom(t *testing.T) {
	c := scene(t)
	marks(c)
	for i, at := range []int{waiting, elder, late, unripe} {
		c.Mark(at)
		to, _ := cameTo(at)
		h := headOf(t, c, to)
		same(t, "found", h.Grey && h.Parity == 1, true)
		same(t, "Lost", c.Grey.Lost(), i >= 2)
	}
	lists(t, "Grey", c.Grey.All(), waiting, elder)
	marks(c) // the other way round: what has this Parity is found
	c.Grey.Put(nil)
	c.Mark(grown)
	same(t, "Len", c.Grey.Len(), 0)
	c.Mark(waiting)
	same(t, "Parity", headOf(t, c, waiting).Parity, 0)
	lists(t, "Grey", c.Grey.All(), waiting)
}

// What is old is noted, once; nothing else is.
func TestNote(t *testing.T) {
	for _, at := range everywhere(scene(t)) {
		c := scene(t)
		if at != elder && at != grown {
			still(t, c, "Note", func() { c.Note(at) })
			continue
		}
		ahead := see(c)
		want := headOf(t, c, at)
		want.Noted = true
		c.Note(at)
		same(t, "the head", headOf(t, c, at), want)
		same(t, "Len", [2]int{c.Rem.Left(), c.Rem.Len()}, [2]int{0, 1})
		still(t, c, "Note", func() { c.Note(at) })
		c.Rem.Flip()
		from, _, part, ok := c.Rem.Next()
		same(t, "Next", from, at)
		same(t, "Next", part, false)
		same(t, "Next", ok, true)
		heads(t, c, at, func(h *api.Head) { h.Noted = false })
		if behind := see(c); !slices.Equal(behind.Words, ahead.Words) {
			t.Fatalf("Note(%d): other words", at)
		}
		c.Note(at) // it may be noted anew
		same(t, "Len", c.Rem.Len(), 1)
		same(t, "Give", c.Old.Give(at), true)
		still(t, c, "Note", func() { c.Note(at) })
		heads(t, c, at, func(h *api.Head) { h.Noted = false })
		still(t, c, "Note, of what is free", func() { c.Note(at) })
	}
}
