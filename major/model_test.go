package major

import (
	"math/rand/v2"
	"slices"
	"testing"

	"tilth/api"
	"tilth/class"
	"tilth/core"
	"tilth/minor"
	"tilth/obj"
)

// node is an object of the model, which has no places: its references are the nodes themselves.
type node struct {
	refs    []*node
	scalars []uint64
}

// pair is a core and what its handles must hold.
type pair struct {
	c *core.Core
	m []*node
}

// scripted is a heap in which everything is tight.
func scripted(kind int) api.Config {
	x := aged(1 + kind%3)
	x.Stack, x.Buffer, x.Card = 1+kind/3%3, kind/9%3, []int{1, 4, 16}[kind/27%3]
	x.Pages = kind / 81 % 5
	x.MajorAt = 0
	return x
}

// does: one entry of a script, on both sides.
func (p pair) does(t *testing.T, kind, a, b, n int) {
	t.Helper()
	switch kind % 19 {
	case 0, 1, 2:
		p.makes(t, a, b, n)
	case 3, 4:
		if p.refers(b, n) {
			is(t, p.c.Get(a, b, n), api.OK)
			p.m[a] = p.m[b].refs[n]
		}
	case 5, 6, 7:
		if p.refers(a, n) {
			is(t, p.c.Set(a, n, b), api.OK)
			p.m[a].refs[n] = p.m[b]
		}
	case 8:
		p.writes(t, a, n)
	case 9:
		is(t, p.c.Clear(a), api.OK)
		p.m[a] = nil
	case 10:
		is(t, p.c.Copy(a, b), api.OK)
		p.m[a] = p.m[b]
	case 11:
		p.starts(t)
	case 12:
		minor.Start(p.c)
	case 13, 14:
		minor.Step(p.c)
	case 15:
		p.runs(t, a+b)
	case 16:
		p.whole(t)
	default:
		p.steps(t)
	}
}

func (p pair) makes(t *testing.T, h, ptrs, scalars int) {
	t.Helper()
	ptrs, scalars = ptrs%4, scalars%4
	if e := p.c.Make(h, ptrs, scalars); e != api.ErrRoom {
		is(t, e, api.OK)
		p.m[h] = &node{make([]*node, ptrs), make([]uint64, scalars)}
	}
}

func (p pair) refers(h, n int) bool {
	return p.m[h] != nil && n < len(p.m[h].refs)
}

func (p pair) writes(t *testing.T, h, n int) {
	t.Helper()
	if p.m[h] == nil || n >= len(p.m[h].scalars) {
		return
	}
	w := uint64(p.c.Done.Allocs) + 1
	is(t, p.c.Write(h, n, w), api.OK)
	p.m[h].scalars[n] = w
}

// starts: a cycle begins just if none is under way.
func (p pair) starts(t *testing.T) {
	t.Helper()
	c, was, parity := p.c, p.c.Phase, p.c.Parity
	same(t, "Start", Start(c), was == api.Idle)
	if was != api.Idle {
		same(t, "Phase and Parity", [2]int{c.Phase, c.Parity}, [2]int{was, parity})
		return
	}
	same(t, "Phase and Parity", [2]int{c.Phase, c.Parity}, [2]int{api.Marks, 1 - parity})
	for _, at := range c.Table.All() {
		if at != 0 {
			are(t, c, colour{c.Parity, true}, at)
		}
	}
}

// steps: a bit, with work as it may be.
func (p pair) steps(t *testing.T) {
	t.Helper()
	c := p.c
	phase, grey, look, majors := c.Phase, c.Grey.Len(), c.Look, c.Done.Majors
	page, pending := c.Old.Pending()
	young, list := c.Young.Used()+c.Young.Left(), starts(c)
	work, more := Step(c)
	same(t, "more", more, c.Phase != api.Idle)
	if phase == api.Idle {
		same(t, "Step", work, 0)
		return
	}
	words := 0
	switch {
	case phase == api.Marks && grey > 0:
		words = c.C.Largest + api.Extra
		same(t, "Look", c.Look, look)
	case phase == api.Marks:
		words = max(young, c.C.Page)
		same(t, "is the end of it that nothing is Grey", c.Phase == api.Marks || p.black(t), true)
	case pending:
		words = c.C.Page
		p.swept(t, list, page)
	}
	if work < 1 || work > 2*words+8 {
		t.Fatalf("the work is %d, of %d words", work, words)
	}
	if phase == api.Sweep {
		same(t, "is the end of it that no page is left", more, pending)
	}
	same(t, "Majors", c.Done.Majors == majors, more)
}

// black: is no object Grey?
func (p pair) black(t *testing.T) bool {
	t.Helper()
	for _, at := range append(p.halves(), starts(p.c)...) {
		if p.c.Now(at) == at && headOf(t, p.c, at).Grey {
			return false
		}
	}
	return true
}

// swept: of what was old there is all that is on other pages, and all that has the core's parity.
func (p pair) swept(t *testing.T, list []int, page int) {
	t.Helper()
	from, to := p.c.Old.Page(page)
	var want []int
	for _, at := range list {
		if at < from || at >= to || headOf(t, p.c, at).Parity == p.c.Parity {
			want = append(want, at)
		}
	}
	lists(t, "what is old", starts(p.c), want...)
	same(t, "is it pending", p.c.Old.Done(page), false)
}

// runs: a few bits.
func (p pair) runs(t *testing.T, work int) {
	t.Helper()
	was := p.c.Phase
	done := Run(p.c, work)
	if done < 0 || was != api.Idle && p.c.Phase != api.Idle && done < work || was == api.Idle && done != 0 {
		t.Fatalf("Run(%d): %d", work, done)
	}
}

// whole: a cycle without anything else meanwhile: behind it what was old, and not held, is free.
func (p pair) whole(t *testing.T) {
	t.Helper()
	for p.c.Phase != api.Idle {
		p.steps(t)
	}
	_, held := p.agrees(t)
	waste := p.c.Old.Used() - held
	p.starts(t)
	promoted := p.c.Done.Promoted
	for n := 0; p.c.Phase != api.Idle; n++ {
		p.steps(t)
		p.agrees(t)
		same(t, "is that too many bits", n > 1000, false)
	}
	same(t, "Promoted", p.c.Done.Promoted, promoted)
	same(t, "what is old is held", p.c.Old.Used(), held)
	same(t, "is there less", waste >= 0, true)
}

// halves: where all objects of both halves begin.
func (p pair) halves() []int {
	var list []int
	now, other := p.c.Young.Begin()
	for _, part := range [][2]int{{now, p.c.Young.Used()}, {other, p.c.Young.Left()}} {
		for at := part[0]; at < part[0]+part[1]; {
			list = append(list, at)
			h, _ := obj.Head(p.c.Arena, at)
			at += obj.Words(h)
		}
	}
	return list
}

// agrees: what handles come to is the same on both sides, and the core hangs together.
func (p pair) agrees(t *testing.T) (young, old int) {
	t.Helper()
	c := p.c
	for _, at := range p.halves() {
		same(t, "is something old in the nursery", headOf(t, c, at).Old, false)
	}
	met, places := map[int]*node{}, []int{}
	meets := func(at int, want *node) {
		t.Helper()
		if was, ok := met[at]; at == 0 || want == nil || ok {
			if (at == 0) != (want == nil) || ok && was != want {
				t.Fatalf("at %d stands something else", at)
			}
			return
		}
		met[at] = want
		places = append(places, at)
	}
	for h, at := range c.Table.All() {
		same(t, "does a handle hold what is to go", c.Young.From(at), false)
		meets(at, p.m[h])
	}
	for i := 0; i < len(places); i++ {
		at, want := places[i], met[places[i]]
		h := p.fits(t, at, want)
		if h.Old {
			old += class.Cell(c.C.Page, obj.Words(h))
		} else {
			young += obj.Words(h)
		}
		for n, ref := range want.refs {
			meets(c.Now(fieldOf(t, c, at, n)), ref)
		}
	}
	p.hasRoom(t)
	return young, old
}

func (p pair) hasRoom(t *testing.T) {
	t.Helper()
	if left := p.c.Young.Left(); !p.c.Moving {
		same(t, "Left", left, 0)
	} else if p.c.Young.Room() < left-p.c.Copied {
		t.Fatalf("Room %d, Left %d, Copied %d", p.c.Young.Room(), left, p.c.Copied)
	}
}

// fits: an object that is held has the node's shape and scalars, and the marks that it must have.
func (p pair) fits(t *testing.T, at int, want *node) api.Head {
	t.Helper()
	c := p.c
	h := headOf(t, c, at)
	same(t, "the shape", [2]int{h.Ptrs, h.Size - h.Ptrs}, [2]int{len(want.refs), len(want.scalars)})
	_, old := c.Old.Size(at)
	same(t, "Old", h.Old, old)
	same(t, "is it somewhere", old || c.Young.In(at) || c.Young.From(at), true)
	for n, w := range want.scalars {
		same(t, "a scalar", uint64(fieldOf(t, c, at, h.Ptrs+n)), w)
	}
	for n := range h.Ptrs {
		to := fieldOf(t, c, at, n)
		if from := c.Young.From(to); h.Old && (from || c.Young.In(to)) {
			same(t, "is it Noted, or in Row", h.Noted || slices.Contains(c.Row, at), true)
		} else if from && c.Young.In(at) {
			same(t, "is it at the cursor, or behind", at >= c.Scan, true)
		}
		if to = c.Now(to); to != 0 && c.Phase == api.Marks && h.Parity == c.Parity && !h.Grey {
			same(t, "what was found refers to what was found", headOf(t, c, to).Parity, c.Parity)
		}
	}
	if c.Phase != api.Marks && h.Old {
		same(t, "Parity of what is old", h.Parity, c.Parity)
	}
	return h
}

// finishes: both cycles come to their ends, and a whole one of each behind them; what is there then is what is held.
func (p pair) finishes(t *testing.T) {
	t.Helper()
	for p.c.Moving {
		minor.Step(p.c)
	}
	p.whole(t)
	ages(t, p.c, 1)
	p.whole(t)
	ages(t, p.c, 1)
	young, old := p.agrees(t)
	same(t, "what is young is held", p.c.Young.Used(), young)
	same(t, "what is old is held", p.c.Old.Used(), old)
}

// does: a script of four bytes an entry.
func does(t *testing.T, kind int, script []byte) {
	t.Helper()
	c := fresh(t, scripted(kind))
	p := pair{c, make([]*node, c.C.Handles)}
	for ; len(script) >= 4; script = script[4:] {
		p.does(t, int(script[0]), int(script[1])%6, int(script[2])%6, int(script[3])%4)
		p.agrees(t)
	}
	p.finishes(t)
}

// Long scripts in heaps of every kind: the numbers are always the same.
func TestScripts(t *testing.T) {
	for kind := range 405 {
		r := rand.New(rand.NewPCG(uint64(kind), 15))
		script := make([]byte, 4*300)
		for i := range script {
			script[i] = byte(r.Uint32())
		}
		does(t, kind, script)
	}
}

// FuzzScript goes through a script with both sides.
func FuzzScript(f *testing.F) {
	f.Add(0, []byte{0, 0, 1, 1, 0, 1, 1, 1, 5, 0, 1, 0, 11, 0, 0, 0, 17, 0, 0, 0, 3, 0, 2, 0, 12, 0, 0, 0, 13, 0, 0, 0, 15, 0, 5, 0})
	f.Add(404, []byte{0, 0, 1, 0, 5, 0, 0, 0, 16, 0, 0, 0, 16, 0, 0, 0, 16, 0, 0, 0, 0, 1, 2, 2, 5, 0, 1, 0, 9, 1, 0, 0, 12, 0, 0, 0, 11, 0, 0, 0, 13, 0, 0, 0, 3, 0, 5, 0, 18, 0, 0, 0})
	f.Fuzz(func(t *testing.T, kind int, script []byte) {
		does(t, int(uint(kind)%405), script[:min(len(script), 4000)])
	})
}
