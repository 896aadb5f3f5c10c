package heap

import (
	"slices"
	"testing"

	"tilth/api"
	"tilth/class"
	"tilth/obj"
)

// node is an object of the model, which has no places: its references are the nodes themselves.
type node struct {
	refs    []*node
	scalars []uint64
}

// model is what a heap's handles must hold.
type model struct {
	held    []*node
	largest int
}

func models(c api.Config) *model {
	return &model{held: make([]*node, c.Handles), largest: c.Largest}
}

// do: what an entry must answer, if there is room.
func (m *model) do(x api.Step) api.Answer {
	switch x.Kind {
	case api.StepMake:
		return m.makes(x.A, x.B, x.C)
	case api.StepGet:
		return m.gets(x.A, x.B, x.C)
	case api.StepSet:
		return m.sets(x.A, x.B, x.C)
	case api.StepRead, api.StepWrite:
		return m.scalar(x)
	case api.StepClear:
		return m.copies(x.A, x.A, true)
	case api.StepCopy:
		return m.copies(x.A, x.B, false)
	case api.StepSame:
		return m.alike(x.A, x.B)
	case api.StepNil:
		if !m.is(x.A) {
			return api.Answer{E: api.ErrHandle}
		}
		return api.Answer{Yes: m.held[x.A] == nil}
	case api.StepShape:
		if e := m.object(x.A); e != api.OK {
			return api.Answer{E: e}
		}
		return api.Answer{N: len(m.held[x.A].refs), V: uint64(len(m.held[x.A].scalars))}
	case api.StepIdle, api.StepForce:
		if x.A == 0 || x.A == 1 {
			return api.Answer{}
		}
	}
	return api.Answer{E: api.ErrArg}
}

func (m *model) is(h int) bool { return h >= 0 && h < len(m.held) }

func (m *model) object(h int) api.Errno {
	if !m.is(h) {
		return api.ErrHandle
	}
	if m.held[h] == nil {
		return api.ErrNil
	}
	return api.OK
}

func (m *model) makes(h, ptrs, scalars int) api.Answer {
	if !m.is(h) {
		return api.Answer{E: api.ErrHandle}
	}
	if ptrs < 0 || scalars < 0 || ptrs > m.largest || scalars > m.largest || ptrs+scalars > m.largest {
		return api.Answer{E: api.ErrSize}
	}
	m.held[h] = &node{make([]*node, ptrs), make([]uint64, scalars)}
	return api.Answer{}
}

func (m *model) gets(to, h, n int) api.Answer {
	if e := m.object(h); e != api.OK {
		return api.Answer{E: e}
	}
	if !m.is(to) {
		return api.Answer{E: api.ErrHandle}
	}
	if n < 0 || n >= len(m.held[h].refs) {
		return api.Answer{E: api.ErrField}
	}
	m.held[to] = m.held[h].refs[n]
	return api.Answer{}
}

func (m *model) sets(h, n, from int) api.Answer {
	if e := m.object(h); e != api.OK {
		return api.Answer{E: e}
	}
	if !m.is(from) {
		return api.Answer{E: api.ErrHandle}
	}
	if n < 0 || n >= len(m.held[h].refs) {
		return api.Answer{E: api.ErrField}
	}
	m.held[h].refs[n] = m.held[from]
	return api.Answer{}
}

func (m *model) scalar(x api.Step) api.Answer {
	if e := m.object(x.A); e != api.OK {
		return api.Answer{E: e}
	}
	list := m.held[x.A].scalars
	if x.B < 0 || x.B >= len(list) {
		return api.Answer{E: api.ErrField}
	}
	if x.Kind == api.StepRead {
		return api.Answer{V: list[x.B]}
	}
	list[x.B] = x.V
	return api.Answer{}
}

func (m *model) copies(to, from int, nothing bool) api.Answer {
	if !m.is(to) || !m.is(from) {
		return api.Answer{E: api.ErrHandle}
	}
	m.held[to] = m.held[from]
	if nothing {
		m.held[to] = nil
	}
	return api.Answer{}
}

func (m *model) alike(a, b int) api.Answer {
	if !m.is(a) || !m.is(b) {
		return api.Answer{E: api.ErrHandle}
	}
	return api.Answer{Yes: m.held[a] == m.held[b]}
}

// pair is a heap and its model.
type pair struct {
	h *Heap
	m *model
}

// halves: where all objects of both halves begin.
func (p pair) halves(t *testing.T) []int {
	t.Helper()
	c := p.h.Core()
	var list []int
	now, other := c.Young.Begin()
	for _, part := range [][2]int{{now, c.Young.Used()}, {other, c.Young.Left()}} {
		at := part[0]
		for at < part[0]+part[1] {
			h, e := obj.Head(c.Arena, at)
			same(t, "a head's error", e, api.OK)
			same(t, "is something old in the nursery", h.Old, false)
			list = append(list, at)
			at += obj.Words(h)
		}
		same(t, "the end of a half", at, part[0]+part[1])
	}
	return list
}

// agrees: what handles come to is the same on both sides, and lies apart; the words of it.
func (p pair) agrees(t *testing.T) (young, old int) {
	t.Helper()
	c := p.h.Core()
	begin := p.halves(t)
	met, place, places := map[int]*node{}, map[*node]int{}, []int{}
	meets := func(at int, want *node) {
		t.Helper()
		if at == 0 && want == nil {
			return
		}
		was, ok := met[at]
		if at == 0 || want == nil || ok && was != want || !ok && place[want] != 0 {
			t.Fatalf("at %d stands something else", at)
		}
		if !ok {
			met[at], place[want] = want, at
			places = append(places, at)
		}
	}
	for h, at := range c.Table.All() {
		same(t, "does a handle hold what is to go", c.Young.From(at), false)
		meets(at, p.m.held[h])
		if x, e := obj.Head(c.Arena, at); at != 0 && c.Phase == api.Marks {
			same(t, "is it found", [2]int{x.Parity, int(e)}, [2]int{c.Parity, 0})
		}
	}
	for i := 0; i < len(places); i++ {
		at, want := places[i], met[places[i]]
		h := p.fits(t, at, want)
		if h.Old {
			old += class.Cell(c.C.Page, obj.Words(h))
		} else {
			same(t, "does an object begin there", slices.Contains(begin, at), true)
			young += obj.Words(h)
		}
		for n, ref := range want.refs {
			meets(c.Now(p.field(t, at, n)), ref)
		}
	}
	p.hasRoom(t)
	return young, old
}

func (p pair) hasRoom(t *testing.T) {
	t.Helper()
	c := p.h.Core()
	if left := c.Young.Left(); !c.Moving {
		same(t, "Left", left, 0)
	} else if c.Young.Room() < left-c.Copied {
		t.Fatalf("Room %d, Left %d, Copied %d", c.Young.Room(), left, c.Copied)
	}
}

func (p pair) field(t *testing.T, at, n int) int {
	t.Helper()
	w, e := obj.Field(p.h.Core().Arena, at, n)
	same(t, "a field's error", e, api.OK)
	return int(w)
}

// fits: an object that is held has the node's shape and scalars, and the marks that it must have.
func (p pair) fits(t *testing.T, at int, want *node) api.Head {
	t.Helper()
	c := p.h.Core()
	h, e := obj.Head(c.Arena, at)
	same(t, "a head's error", e, api.OK)
	same(t, "the shape", [2]int{h.Ptrs, h.Size - h.Ptrs}, [2]int{len(want.refs), len(want.scalars)})
	way, e := obj.Way(c.Arena, at)
	same(t, "the way", [2]int{way, int(e)}, [2]int{at, 0})
	size, old := c.Old.Size(at)
	same(t, "Old", h.Old, old)
	same(t, "is it in its cell", !old || obj.Words(h) <= size, true)
	for n, w := range want.scalars {
		same(t, "a scalar", uint64(p.field(t, at, h.Ptrs+n)), w)
	}
	for n := range h.Ptrs {
		p.refers(t, at, h, p.field(t, at, n))
	}
	if c.Phase != api.Marks && h.Old {
		same(t, "Parity of what is old", h.Parity, c.Parity)
	}
	return h
}

// refers: a reference is known to the cycles as it must be.
func (p pair) refers(t *testing.T, at int, h api.Head, to int) {
	t.Helper()
	c := p.h.Core()
	if from := c.Young.From(to); h.Old && (from || c.Young.In(to)) {
		same(t, "is it Noted, or in Row", h.Noted || slices.Contains(c.Row, at), true)
	} else if from && c.Young.In(at) {
		same(t, "is it at the cursor, or behind", at >= c.Scan, true)
	}
	if to = c.Now(to); to != 0 && c.Phase == api.Marks && h.Parity == c.Parity && !h.Grey {
		x, _ := obj.Head(c.Arena, to)
		same(t, "what was found refers to what was found", x.Parity, c.Parity)
	}
}

// words: the words of all that the model holds.
func (m *model) words() int {
	met, words := map[*node]bool{nil: true}, 0
	list := slices.Clone(m.held)
	for i := 0; i < len(list); i++ {
		if met[list[i]] {
			continue
		}
		met[list[i]] = true
		words += len(list[i].refs) + len(list[i].scalars) + api.Extra
		list = append(list, list[i].refs...)
	}
	return words
}
