package graph

import "tilth/api"

// handle: what a handle holds.
func (g *Graph) handle(h int) (*node, api.Errno) {
	if h < 0 || h >= len(g.held) {
		return nil, api.ErrHandle
	}
	return g.held[h], api.OK
}

// node: the node that a handle holds.
func (g *Graph) node(h int) (*node, api.Errno) {
	x, e := g.handle(h)
	if e != api.OK {
		return nil, e
	}
	if x == nil {
		return nil, api.ErrNil
	}
	return x, api.OK
}

// hold: a handle holds it.
func (g *Graph) hold(h int, x *node) api.Errno {
	if _, e := g.handle(h); e != api.OK {
		return e
	}
	g.held[h] = x
	return api.OK
}

// create: a new node.
func (g *Graph) create(h, ptrs, scalars int) api.Errno {
	if _, e := g.handle(h); e != api.OK {
		return e
	}
	if ptrs < 0 || scalars < 0 || ptrs > g.largest-scalars { // not their sum, which may wrap round
		return api.ErrSize
	}
	return g.hold(h, &node{ptrs: make([]*node, ptrs), scalars: make([]uint64, scalars)})
}

func (g *Graph) get(to, h, n int) api.Errno {
	x, e := g.node(h)
	if e != api.OK {
		return e
	}
	if _, e := g.handle(to); e != api.OK {
		return e
	}
	if n < 0 || n >= len(x.ptrs) {
		return api.ErrField
	}
	return g.hold(to, x.ptrs[n])
}

func (g *Graph) set(h, n, from int) api.Errno {
	x, e := g.node(h)
	if e != api.OK {
		return e
	}
	y, e := g.handle(from)
	if e != api.OK {
		return e
	}
	if n < 0 || n >= len(x.ptrs) {
		return api.ErrField
	}
	x.ptrs[n] = y
	return api.OK
}

// scalar: where a scalar of a node stands.
func (g *Graph) scalar(h, n int) (*uint64, api.Errno) {
	x, e := g.node(h)
	if e != api.OK {
		return nil, e
	}
	if n < 0 || n >= len(x.scalars) {
		return nil, api.ErrField
	}
	return &x.scalars[n], api.OK
}

func (g *Graph) read(h, n int) api.Answer {
	w, e := g.scalar(h, n)
	if e != api.OK {
		return api.Answer{E: e}
	}
	return api.Answer{V: *w}
}

func (g *Graph) write(h, n int, v uint64) api.Errno {
	w, e := g.scalar(h, n)
	if e != api.OK {
		return e
	}
	*w = v
	return api.OK
}

func (g *Graph) copy(to, from int) api.Errno {
	x, e := g.handle(from)
	if e != api.OK {
		return e
	}
	return g.hold(to, x)
}

// same: do both hold the same? Two that hold nothing do.
func (g *Graph) same(a, b int) api.Answer {
	x, e := g.handle(a)
	if e != api.OK {
		return api.Answer{E: e}
	}
	y, e := g.handle(b)
	if e != api.OK {
		return api.Answer{E: e}
	}
	return api.Answer{Yes: x == y}
}

func (g *Graph) empty(h int) api.Answer {
	x, e := g.handle(h)
	if e != api.OK {
		return api.Answer{E: e}
	}
	return api.Answer{Yes: x == nil}
}

func (g *Graph) shape(h int) api.Answer {
	x, e := g.node(h)
	if e != api.OK {
		return api.Answer{E: e}
	}
	return api.Answer{N: len(x.ptrs), V: uint64(len(x.scalars))}
}
