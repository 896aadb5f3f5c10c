package core

import (
	"tilth/api"
	"tilth/obj"
)

// handle: what a handle holds.
func (c *Core) handle(h int) (int, api.Errno) {
	if c == nil {
		return 0, api.ErrArg
	}
	return c.Table.Get(h)
}

// held: the object that a handle holds.
func (c *Core) held(h int) (int, api.Head, api.Errno) {
	at, e := c.handle(h)
	if e != api.OK {
		return 0, api.Head{}, e
	}
	if at == 0 {
		return 0, api.Head{}, api.ErrNil
	}
	x, e := obj.Head(c.Arena, at)
	return at, x, e
}

// Get: a handle holds what a reference of an object tells. It is found, and leaves the half that is
// emptied, as nothing but that may come to a handle.
func (c *Core) Get(to, h, n int) api.Errno {
	at, x, e := c.held(h)
	if e != api.OK {
		return e
	}
	if _, e := c.handle(to); e != api.OK {
		return e
	}
	if !isReference(x, n) {
		return api.ErrField
	}
	w, e := obj.Field(c.Arena, at, n)
	if e != api.OK {
		return e
	}
	got := c.Move(int(w))
	c.Mark(got)
	return c.Table.Set(to, got)
}

// Set: a reference of an object is what a handle holds.
func (c *Core) Set(h, n, from int) api.Errno {
	at, x, e := c.held(h)
	if e != api.OK {
		return e
	}
	to, e := c.handle(from)
	if e != api.OK {
		return e
	}
	if !isReference(x, n) {
		return api.ErrField
	}
	if e := obj.SetField(c.Arena, at, n, uint64(to)); e != api.OK {
		return e
	}
	if c.young(to) {
		c.Note(at)
	}
	return api.OK
}

// Read: a scalar of an object.
func (c *Core) Read(h, n int) (uint64, api.Errno) {
	at, x, e := c.held(h)
	if e != api.OK {
		return 0, e
	}
	if !isScalar(x, n) {
		return 0, api.ErrField
	}
	return obj.Field(c.Arena, at, x.Ptrs+n)
}

// Write: a scalar of an object is w.
func (c *Core) Write(h, n int, w uint64) api.Errno {
	at, x, e := c.held(h)
	if e != api.OK {
		return e
	}
	if !isScalar(x, n) {
		return api.ErrField
	}
	return obj.SetField(c.Arena, at, x.Ptrs+n, w)
}

func isReference(x api.Head, n int) bool { return 0 <= n && n < x.Ptrs }

func isScalar(x api.Head, n int) bool { return 0 <= n && n < x.Size-x.Ptrs }

// Clear: a handle holds nothing.
func (c *Core) Clear(h int) api.Errno {
	if _, e := c.handle(h); e != api.OK {
		return e
	}
	return c.Table.Set(h, 0)
}

// Copy: a handle holds what another one does.
func (c *Core) Copy(to, from int) api.Errno {
	at, e := c.handle(from)
	if e != api.OK {
		return e
	}
	return c.Table.Set(to, at)
}

// Same: do both hold the same? An object has one place only that handles hold, so that places tell.
func (c *Core) Same(a, b int) (bool, api.Errno) {
	x, e := c.handle(a)
	if e != api.OK {
		return false, e
	}
	y, e := c.handle(b)
	return e == api.OK && x == y, e
}

// Nil: does it hold nothing?
func (c *Core) Nil(h int) (bool, api.Errno) {
	at, e := c.handle(h)
	return e == api.OK && at == 0, e
}

// Shape: how many references and scalars an object has.
func (c *Core) Shape(h int) (ptrs, scalars int, e api.Errno) {
	_, x, e := c.held(h)
	return x.Ptrs, x.Size - x.Ptrs, e
}
