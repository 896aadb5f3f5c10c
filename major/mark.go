package major

import (
	"tilth/api"
	"tilth/core"
	"tilth/obj"
)

// mark: the words of what a bit of Marks looked at. While objects are looked through the stack comes first, as it then
// has room for what is found.
func mark(c *core.Core) int {
	if at, ok := c.Grey.Pop(); ok {
		return look(c, c.Now(at))
	}
	if from, to := c.Old.Page(c.Look); from < to {
		c.Look++
		return lookThrough(c, c.Old.Starts(from, to))
	}
	if c.Grey.Lost() {
		return nursery(c)
	}
	c.Look, c.Phase = -1, api.Sweep
	c.Old.Pend()
	return 0
}

// nursery: all is looked through from now on. What is young comes first, and in one bit, so that what a minor cycle
// moves meanwhile, from half to half or to a page that was looked at, need not be looked for anew. What is lost from now
// on is.
func nursery(c *core.Core) int {
	c.Grey.Found()
	c.Look = 0
	now, other := c.Young.Begin()
	return half(c, now, c.Young.Used()) + half(c, other, c.Young.Left())
}

// half: all objects of so many words, but for those that were moved away.
func half(c *core.Core, at, used int) int {
	words := 0
	for end := at + used; at < end; {
		h, e := obj.Head(c.Arena, at)
		if e != api.OK {
			break
		}
		if c.Now(at) == at {
			words += look(c, at)
		}
		at += obj.Words(h)
	}
	return words
}

func lookThrough(c *core.Core, list []int) int {
	words := 0
	for _, at := range list {
		words += look(c, at)
	}
	return words
}

// look: what a grey object refers to is found; the object's words.
func look(c *core.Core, at int) int {
	h, e := obj.Head(c.Arena, at)
	if e != api.OK {
		return 0
	}
	words := obj.Words(h)
	if !h.Grey {
		return words
	}
	h.Grey = false
	if obj.SetHead(c.Arena, at, h) != api.OK {
		return words
	}
	for n := range h.Ptrs {
		if w, e := obj.Field(c.Arena, at, n); e == api.OK {
			c.Mark(int(w))
		}
	}
	return words
}
