package core

import (
	"testing"

	"tilth/api"
	"tilth/bump"
	"tilth/obj"
)

// wide is a small heap with halves from 1 and 65 on, pages from 129 on.
func wide() api.Config {
	return api.Config{Handles: 3, Nursery: 64, Pages: 4, Page: 16, Card: 1, Buffer: 4, Stack: 4, Tenure: 7, Largest: 8}
}

// A scalar that is just like a head is no object, and the one behind it no way.
func TestNowOfAScalar(t *testing.T) {
	c := fresh(t, wide())
	at := makes(t, c, 0, 0, 3)
	is(t, c.Write(0, 0, likeHead(t, 1)), api.OK)
	is(t, c.Write(0, 1, 40), api.OK)
	stays := func() {
		for n := 1; n < 5; n++ {
			same(t, "Now", c.Now(at+n), at+n)
			same(t, "Move", c.Move(at+n), at+n)
		}
	}
	still(t, c, "Now and Move, in the half that is filled", stays)
	flips(t, c)
	still(t, c, "Now and Move, ahead of the move", stays)
	follow(t, c)
	same(t, "Now", c.Now(at), 65)
	still(t, c, "Now and Move, behind it", stays)
	drops(c)
	still(t, c, "Now and Move, of no half", stays)
}

// What is moved has its scalars behind it, as they were written.
func TestMoveOfAScalar(t *testing.T) {
	for size := range 7 {
		c := fresh(t, wide())
		makes(t, c, 0, 1, 0)
		at := makes(t, c, 1, 0, 3)
		w := likeHead(t, size)
		for n, scalar := range []uint64{w, uint64(at + 2), 77} {
			is(t, c.Write(1, n, scalar), api.OK)
		}
		is(t, c.Set(0, 0, 1), api.OK)
		is(t, c.Clear(1), api.OK)
		flips(t, c)
		follow(t, c)
		still(t, c, "Move", func() {
			for n := 1; n < 5; n++ {
				same(t, "Move", c.Move(at+n), at+n)
			}
		})
		is(t, c.Get(1, 0, 0), api.OK)
		for n, want := range []uint64{w, uint64(at + 2), 77} {
			got, e := c.Read(1, n)
			is(t, e, api.OK)
			same(t, "the scalar", got, want)
		}
	}
}

// What is no object is not found: in the nursery, and among what is old.
func TestMarkOfAScalar(t *testing.T) {
	for _, times := range []int{0, 1, 2, 3} {
		for size := range 7 {
			c := fresh(t, aged(2))
			makes(t, c, 0, 1, 5)
			for n := range 5 {
				is(t, c.Write(0, n, likeHead(t, size)), api.OK)
			}
			ages(t, c, times)
			at := holds(t, c, 0)
			marks(c)
			still(t, c, "Mark", func() {
				for n := 1; n < 8; n++ {
					c.Mark(at + n)
				}
			})
			c.Mark(at)
			lists(t, "Grey", c.Grey.All(), at)
		}
	}
}

// Where a half is filled again objects begin at other places.
func TestHalvesAreFilledAgain(t *testing.T) {
	c := fresh(t, wide())
	for round := range 9 {
		scalars := round * 5 % 9
		var places []int
		for h := range 3 {
			places = append(places, makes(t, c, h, 0, scalars))
			for n := range scalars {
				is(t, c.Write(h, n, likeHead(t, 0)), api.OK)
			}
			is(t, c.Clear(h), api.OK)
		}
		flips(t, c)
		for _, at := range places {
			for n := 1; n < scalars+2; n++ {
				same(t, "Move", c.Move(at+n), at+n)
			}
			if to := c.Move(at); to == at || headOf(t, c, to).Size != scalars {
				t.Fatalf("round %d: Move(%d): %d", round, at, to)
			}
		}
		drops(c)
		ages(t, c, 1) // nothing is held
	}
}

// Of a nursery that somebody else put there, every place answers; where it is as New's, what it has is known by its heads.
func TestAnotherNursery(t *testing.T) {
	for _, from := range []int{0, 1, 100, 129, 1000, api.MaxWords} {
		c := fresh(t, wide())
		c.Young = bump.New(from, 64)
		for h := range 3 {
			c.Make(h, 1, 6)
		}
		c.Young.Flip()
		c.Moving = true
		for _, at := range everywhere(c) {
			c.Now(at)
			c.Move(at)
			c.Mark(at)
		}
	}
	c := fresh(t, wide())
	other := Core{C: c.C, Arena: c.Arena, Young: c.Young, Old: c.Old, Rem: c.Rem, Grey: c.Grey, Table: c.Table, Look: -1}
	at := makes(t, &other, 0, 1, 1)
	flips(t, &other)
	to := other.Move(at)
	same(t, "Move", to, 65)
	same(t, "Now", other.Now(at), to)
	same(t, "the head", obj.Words(headOf(t, &other, to)), 4)
}

// However full the nursery is, a call asks for few words.
func TestGetAsksForFewWords(t *testing.T) {
	for _, largest := range []int{1, 2, 8, 64} {
		x := wide()
		x.Nursery, x.Page, x.Largest = api.MaxNursery, api.MaxPage, largest
		c := fresh(t, x)
		for c.Make(0, 0, 0) == api.OK && c.Young.Room() > 200 {
		}
		makes(t, c, 0, 1, largest-1)
		makes(t, c, 1, 1, 0)
		is(t, c.Set(1, 0, 0), api.OK)
		is(t, c.Clear(0), api.OK)
		flips(t, c)
		follow(t, c)
		marks(c)
		asked := c.Arena.Count()
		is(t, c.Get(2, 1, 0), api.OK)
		if asked = c.Arena.Count() - asked; asked > 4*x.Largest+40 {
			t.Errorf("Largest %d: Get asks for %d words", x.Largest, asked)
		}
	}
}
