package core

import (
	"math/rand/v2"
	"slices"
	"testing"

	"tilth/api"
	"tilth/obj"
)

// node is an object of the model, which has no places: its references are the nodes themselves.
type node struct {
	refs    []*node
	scalars []uint64
}

// model is what a core must look like from without.
type model []*node // what handles hold

// pair is a core and its model; the cycles are the test's own, as plain as may be.
type pair struct {
	c *Core
	m model
}

// scripted is a heap in which everything is tight.
func scripted(kind int) api.Config {
	x := aged(1 + kind%3)
	x.Stack, x.Buffer, x.Card = 1+kind/3%3, kind/9%3, []int{1, 4, 16}[kind/27%3]
	x.Pages = kind / 81 % 5
	x.MajorAt = 0
	return x
}

// does: one entry of a script, on both sides; the errors are told ahead from the model.
func (p pair) does(t *testing.T, kind, a, b, n int) {
	t.Helper()
	switch kind % 16 {
	case 0, 1, 2:
		p.makes(t, a, b, n)
	case 3, 4:
		p.gets(t, b, a, n)
	case 5, 6, 7:
		p.sets(t, a, n, b)
	case 8:
		p.writes(t, a, n)
	case 9:
		is(t, p.c.Clear(a), api.OK)
		p.m[a] = nil
	case 10:
		is(t, p.c.Copy(a, b), api.OK)
		p.m[a] = p.m[b]
	case 11:
		p.startMinor()
	case 12:
		p.startMajor()
	case 13:
		p.stepMajor()
	default:
		p.stepMinor()
	}
}

func (p pair) makes(t *testing.T, h, ptrs, scalars int) {
	t.Helper()
	ptrs, scalars = ptrs%4, scalars%4
	room := p.c.Young.Room()
	if p.c.Moving {
		room -= p.c.Young.Left() - p.c.Copied
	}
	if ptrs+scalars+2 > room {
		is(t, p.c.Make(h, ptrs, scalars), api.ErrRoom)
		return
	}
	is(t, p.c.Make(h, ptrs, scalars), api.OK)
	p.m[h] = &node{make([]*node, ptrs), make([]uint64, scalars)}
}

// refers: whether what a handle holds has such a reference, and the error, if not.
func (m model) refers(h, n int) api.Errno {
	if m[h] == nil {
		return api.ErrNil
	}
	return below(n, len(m[h].refs))
}

func (p pair) gets(t *testing.T, to, h, n int) {
	t.Helper()
	e := p.m.refers(h, n)
	is(t, p.c.Get(to, h, n), e)
	if e == api.OK {
		p.m[to] = p.m[h].refs[n]
	}
}

func (p pair) sets(t *testing.T, h, n, from int) {
	t.Helper()
	e := p.m.refers(h, n)
	is(t, p.c.Set(h, n, from), e)
	if e == api.OK {
		p.m[h].refs[n] = p.m[from]
	}
}

func (p pair) writes(t *testing.T, h, n int) {
	t.Helper()
	e := api.ErrNil
	if p.m[h] != nil {
		e = below(n, len(p.m[h].scalars))
	}
	w := uint64(p.c.Done.Allocs) + 1
	if w%2 == 0 {
		w = likeHead(t, int(w/2%7))
	}
	is(t, p.c.Write(h, n, w), e)
	if e == api.OK {
		p.m[h].scalars[n] = w
	}
}

// startMinor: the other half is filled from now on, and handles follow.
func (p pair) startMinor() {
	c := p.c
	if c.Moving {
		return
	}
	c.Young.Flip()
	c.Rem.Flip()
	c.Moving, c.Row = true, nil
	c.Scan, _ = c.Young.Begin()
	for h, at := range c.Table.All() {
		c.Table.Set(h, c.Move(at))
	}
}

// stepMinor: one of Row, of Rem or of the half that is filled is looked at; or the half is empty.
func (p pair) stepMinor() {
	c := p.c
	if !c.Moving {
		return
	}
	if len(c.Row) > 0 {
		at := c.Row[0]
		c.Row = c.Row[1:]
		if c.old(at) {
			p.follow(at)
		}
		return
	}
	if from, to, _, ok := c.Rem.Next(); ok {
		for _, at := range c.Old.Starts(from, to) {
			p.unnote(at)
		}
		return
	}
	if begin, _ := c.Young.Begin(); c.Scan < begin+c.Young.Used() {
		c.Scan += p.follow(c.Scan)
		return
	}
	p.endMinor()
}

func (p pair) unnote(at int) {
	h, _ := obj.Head(p.c.Arena, at)
	if !h.Noted {
		return
	}
	h.Noted = false
	obj.SetHead(p.c.Arena, at, h)
	p.follow(at)
}

// follow: what an object refers to leaves the half that is emptied; its words.
func (p pair) follow(at int) int {
	h, _ := obj.Head(p.c.Arena, at)
	for n := range h.Ptrs {
		w, _ := obj.Field(p.c.Arena, at, n)
		to := p.c.Move(int(w))
		obj.SetField(p.c.Arena, at, n, uint64(to))
		if p.c.Young.In(to) {
			p.c.Note(at)
		}
	}
	return obj.Words(h)
}

func (p pair) endMinor() {
	c := p.c
	var list []int
	for _, at := range c.Grey.All() {
		if at = c.Now(at); !c.Young.From(at) {
			list = append(list, at)
		}
	}
	c.Grey.Put(list)
	c.Young.Drop()
	c.Moving, c.Copied = false, 0
}

// startMajor: what handles hold is found.
func (p pair) startMajor() {
	if p.c.Phase != api.Idle {
		return
	}
	marks(p.c)
	for _, at := range p.c.Table.All() {
		p.c.Mark(at)
	}
}

// stepMajor: one that was found is looked at, or a page is swept.
func (p pair) stepMajor() {
	switch c := p.c; c.Phase {
	case api.Marks:
		if at, ok := c.Grey.Pop(); ok {
			p.shade(c.Now(at))
		} else if c.Grey.Lost() {
			c.Grey.Found()
			for _, at := range p.all() {
				p.shade(at)
			}
		} else {
			c.Phase = api.Sweep
			c.Old.Pend()
		}
	case api.Sweep:
		p.sweep()
	}
}

// shade: if it is grey, it is not any more, and all that it refers to is found.
func (p pair) shade(at int) {
	h, e := obj.Head(p.c.Arena, at)
	if e != api.OK || !h.Grey {
		return
	}
	h.Grey = false
	obj.SetHead(p.c.Arena, at, h)
	for n := range h.Ptrs {
		w, _ := obj.Field(p.c.Arena, at, n)
		p.c.Mark(int(w))
	}
}

// all: where all objects are, but for those that were moved away.
func (p pair) all() []int {
	list := p.c.Old.Starts(0, api.MaxWords)
	now, other := p.c.Young.Begin()
	for _, part := range [][2]int{{now, p.c.Young.Used()}, {other, p.c.Young.Left()}} {
		for at := part[0]; at < part[0]+part[1]; {
			h, _ := obj.Head(p.c.Arena, at)
			if p.c.Now(at) == at {
				list = append(list, at)
			}
			at += obj.Words(h)
		}
	}
	return list
}

func (p pair) sweep() {
	c := p.c
	page, ok := c.Old.Pending()
	if !ok {
		c.Phase = api.Idle
		return
	}
	for _, at := range c.Old.Starts(c.Old.Page(page)) {
		if h, _ := obj.Head(c.Arena, at); h.Parity != c.Parity {
			c.Old.Give(at)
		}
	}
	c.Old.Done(page)
}

// agrees: what handles come to is the same on both sides, and the core is as the chapter's words say.
func (p pair) agrees(t *testing.T) {
	t.Helper()
	c := p.c
	met, places := map[int]*node{}, []int{}
	meets := func(at int, want *node) {
		t.Helper()
		if was, ok := met[at]; at == 0 || want == nil || ok {
			if (at == 0) != (want == nil) || ok && was != want {
				t.Fatalf("at %d stands something else", at)
			}
			return
		}
		met[at] = want
		places = append(places, at)
	}
	for h, at := range c.Table.All() {
		same(t, "a handle's place", c.Young.From(at), false)
		if at != 0 && c.Phase == api.Marks {
			same(t, "Parity", headOf(t, c, at).Parity, c.Parity)
		}
		meets(at, p.m[h])
	}
	for i := 0; i < len(places); i++ {
		at, want := places[i], met[places[i]]
		p.fits(t, at, want)
		for n, ref := range want.refs {
			meets(c.Now(int(fieldOf(t, c, at, n))), ref)
		}
	}
	p.stays(t)
	if c.Moving && c.Young.Room() < c.Young.Left()-c.Copied {
		t.Fatalf("Room %d, Left %d, Copied %d", c.Young.Room(), c.Young.Left(), c.Copied)
	}
}

// stays: what is no object is not moved, and not found, whatever stands there.
func (p pair) stays(t *testing.T) {
	t.Helper()
	c := p.c
	used, copied, grey := c.Young.Used(), c.Copied, c.Grey.Len()
	now, other := c.Young.Begin()
	for _, part := range [][2]int{{now, used}, {other, c.Young.Left()}} {
		for at := part[0]; at < part[0]+part[1]; at++ {
			for range obj.Words(headOf(t, c, at)) - 1 {
				at++
				same(t, "Now", c.Now(at), at)
				same(t, "Move", c.Move(at), at)
				c.Mark(at)
			}
		}
	}
	same(t, "is it as it was", [3]int{c.Young.Used(), c.Copied, c.Grey.Len()}, [3]int{used, copied, grey})
}

// fits: an object that is held has the node's shape and scalars, and the marks that it must have.
func (p pair) fits(t *testing.T, at int, want *node) {
	t.Helper()
	c := p.c
	h := headOf(t, c, at)
	same(t, "the shape", [2]int{h.Ptrs, h.Size - h.Ptrs}, [2]int{len(want.refs), len(want.scalars)})
	same(t, "the way", wayOf(t, c, at), at)
	same(t, "Old", h.Old, c.old(at))
	for n, w := range want.scalars {
		same(t, "a scalar", fieldOf(t, c, at, h.Ptrs+n), w)
	}
	for n := range h.Ptrs {
		to := int(fieldOf(t, c, at, n))
		if h.Old && c.young(to) && !h.Noted && !slices.Contains(c.Row, at) {
			t.Fatalf("%d refers to %d, and is not noted", at, to)
		}
		if to = c.Now(to); to != 0 && c.Phase == api.Marks && h.Parity == c.Parity && !h.Grey {
			same(t, "what was found refers to what was found", headOf(t, c, to).Parity, c.Parity)
		}
	}
	if c.Phase != api.Marks && h.Old {
		same(t, "Parity of what is old", h.Parity, c.Parity)
	}
}

// finishes: both cycles come to their ends, and a whole one of each behind them; what is there then is what is held.
func (p pair) finishes(t *testing.T) {
	t.Helper()
	for p.c.Moving {
		p.stepMinor()
	}
	for range 2 {
		for p.c.Phase != api.Idle {
			p.stepMajor()
		}
		p.agrees(t)
		p.startMajor()
	}
	for p.c.Phase != api.Idle {
		p.stepMajor()
	}
	for p.startMinor(); p.c.Moving; {
		p.stepMinor()
	}
	p.agrees(t)
}

// runs: a script of four bytes an entry.
func runs(t *testing.T, kind int, script []byte) {
	t.Helper()
	c := fresh(t, scripted(kind))
	p := pair{c, make(model, c.C.Handles)}
	for ; len(script) >= 4; script = script[4:] {
		asked := c.Arena.Count()
		p.does(t, int(script[0]), int(script[1])%6, int(script[2])%6, int(script[3])%4)
		if asked = c.Arena.Count() - asked; script[0]%16 < 11 && asked > 4*c.C.Largest+40 {
			t.Fatalf("call %d asks for %d words", script[0]%16, asked)
		}
		p.agrees(t)
	}
	p.finishes(t)
}

// Long scripts in heaps of every kind: the numbers are always the same.
func TestScripts(t *testing.T) {
	for kind := range 405 {
		r := rand.New(rand.NewPCG(uint64(kind), 13))
		script := make([]byte, 4*300)
		for i := range script {
			script[i] = byte(r.Uint32())
		}
		runs(t, kind, script)
	}
}

// FuzzScript goes through a script with both sides.
func FuzzScript(f *testing.F) {
	f.Add(0, []byte{0, 0, 1, 1, 0, 1, 1, 1, 5, 0, 1, 0, 11, 0, 0, 0, 14, 0, 0, 0, 3, 0, 2, 0, 12, 0, 0, 0, 13, 0, 0, 0, 14, 0, 0, 0})
	f.Add(404, []byte{0, 0, 1, 0, 5, 0, 0, 0, 11, 0, 0, 0, 14, 0, 0, 0, 14, 0, 0, 0, 14, 0, 0, 0, 0, 1, 2, 2, 5, 0, 1, 0, 9, 1, 0, 0, 12, 0, 0, 0, 11, 0, 0, 0, 13, 0, 0, 0, 3, 0, 5, 0})
	f.Fuzz(func(t *testing.T, kind int, script []byte) {
		runs(t, int(uint(kind)%405), script[:min(len(script), 4000)])
	})
}
