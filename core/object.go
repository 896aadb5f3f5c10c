package core

import (
	"tilth/api"
	"tilth/obj"
)

// young: does a place stand in the nursery?
func (c *Core) young(at int) bool {
	return c.Young.In(at) || c.Young.From(at)
}

// old: does an old object begin there?
func (c *Core) old(at int) bool {
	_, ok := c.Old.Size(at)
	return ok
}

// begins: may an object begin there? A scalar may be just like a head, and going through the half would ask for too
// many words, so that it is kept where none begins.
func (c *Core) begins(at int) bool {
	if c.young(at) {
		return at >= len(c.within) || !c.within[at]
	}
	return c.old(at)
}

// settle: room for one object of the nursery. What stood there ahead, when the half was filled before, is forgotten.
func (c *Core) settle(words int) (int, bool) {
	at, ok := c.Young.Take(words)
	if !ok {
		return 0, false
	}
	for n := range min(words, len(c.within)-at) {
		c.within[at+n] = n > 0
	}
	return at, true
}

// head: the head of the object that begins there.
func (c *Core) head(at int) (api.Head, bool) {
	if !c.begins(at) {
		return api.Head{}, false
	}
	h, e := obj.Head(c.Arena, at)
	return h, e == api.OK
}

// leaving: the head of an object of the half that is emptied, and where it is now.
func (c *Core) leaving(at int) (h api.Head, now int, ok bool) {
	if c == nil || !c.Young.From(at) {
		return api.Head{}, at, false
	}
	h, ok = c.head(at)
	if !ok {
		return api.Head{}, at, false
	}
	way, e := obj.Way(c.Arena, at)
	if e != api.OK {
		return api.Head{}, at, false
	}
	return h, way, true
}

// Now: where something is now.
func (c *Core) Now(at int) int {
	_, now, _ := c.leaving(at)
	return now
}

// Move: it leaves the half that is emptied, if it hasn't yet. Where it went is told even when that was
// freed since: nothing may refer to the half when it is empty.
func (c *Core) Move(at int) int {
	h, now, ok := c.leaving(at)
	if !ok || now != at {
		return now
	}
	h = c.older(h)
	words := obj.Words(h)
	to, old, ok := c.next(h.Age, words)
	h.Old = old
	if !ok || obj.Move(c.Arena, at, to, h) != api.OK {
		return at
	}
	c.Copied += words
	if old {
		c.Row = append(c.Row, to)
		c.Done.Promoted += words
	}
	return to
}

// older: an object's head behind its move. While a major cycle marks, what it has found stays found,
// and all else stays to be found; at other times nothing is to be found.
func (c *Core) older(h api.Head) api.Head {
	h.Age = min(h.Age+1, api.MaxAge)
	if c.Phase != api.Marks {
		h.Parity, h.Grey = c.Parity, false
	}
	return h
}

// next: room for an object of that age, among what is old, if it is old enough and there is some.
func (c *Core) next(age, words int) (to int, old, ok bool) {
	if age >= c.C.Tenure {
		if to, ok = c.Old.Take(words); ok {
			return to, true, true
		}
	}
	to, ok = c.settle(words)
	return to, false, ok
}

// Mark: it is found.
func (c *Core) Mark(at int) {
	if c == nil || c.Phase != api.Marks {
		return
	}
	at = c.Now(at)
	h, ok := c.head(at)
	if !ok || h.Parity == c.Parity {
		return
	}
	h.Parity, h.Grey = c.Parity, true
	if obj.SetHead(c.Arena, at, h) == api.OK {
		c.Grey.Push(at)
	}
}

// Note: it may have references to young ones.
func (c *Core) Note(at int) {
	if c == nil || !c.old(at) {
		return
	}
	h, ok := c.head(at)
	if !ok || h.Noted {
		return
	}
	h.Noted = true
	if obj.SetHead(c.Arena, at, h) == api.OK {
		c.Rem.Add(at)
	}
}
