package minor

import (
	"math/rand/v2"
	"slices"
	"testing"

	"tilth/api"
	"tilth/class"
	"tilth/core"
	"tilth/obj"
)

// node is an object of the model, which has no places: its references are the nodes themselves.
type node struct {
	refs    []*node
	scalars []uint64
}

// pair is a core and what its handles must hold; the major cycle is the test's own, as plain as may be.
type pair struct {
	c *core.Core
	m []*node
}

// scripted is a heap in which everything is tight.
func scripted(kind int) api.Config {
	x := aged(1 + kind%3)
	x.Stack, x.Buffer, x.Card = 1+kind/3%3, kind/9%3, []int{1, 4, 16}[kind/27%3]
	x.Pages = kind / 81 % 5
	x.MajorAt = 0
	return x
}

// does: one entry of a script, on both sides.
func (p pair) does(t *testing.T, kind, a, b, n int) {
	t.Helper()
	switch kind % 19 {
	case 0, 1, 2:
		p.makes(t, a, b, n)
	case 3, 4:
		if p.refers(b, n) {
			is(t, p.c.Get(a, b, n), api.OK)
			p.m[a] = p.m[b].refs[n]
		}
	case 5, 6, 7:
		if p.refers(a, n) {
			is(t, p.c.Set(a, n, b), api.OK)
			p.m[a].refs[n] = p.m[b]
		}
	case 8:
		p.writes(t, a, n)
	case 9:
		is(t, p.c.Clear(a), api.OK)
		p.m[a] = nil
	case 10:
		is(t, p.c.Copy(a, b), api.OK)
		p.m[a] = p.m[b]
	case 11:
		p.starts(t)
	case 12:
		p.startMajor()
	case 13, 14:
		p.stepMajor()
	case 15:
		p.runs(t, a+b)
	case 16:
		p.whole(t)
	default:
		p.steps(t)
	}
}

func (p pair) makes(t *testing.T, h, ptrs, scalars int) {
	t.Helper()
	ptrs, scalars = ptrs%4, scalars%4
	if e := p.c.Make(h, ptrs, scalars); e != api.ErrRoom {
		is(t, e, api.OK)
		p.m[h] = &node{make([]*node, ptrs), make([]uint64, scalars)}
	}
}

func (p pair) refers(h, n int) bool {
	return p.m[h] != nil && n < len(p.m[h].refs)
}

func (p pair) writes(t *testing.T, h, n int) {
	t.Helper()
	if p.m[h] == nil || n >= len(p.m[h].scalars) {
		return
	}
	w := uint64(p.c.Done.Allocs) + 1
	is(t, p.c.Write(h, n, w), api.OK)
	p.m[h].scalars[n] = w
}

// starts: a cycle begins just if none is under way.
func (p pair) starts(t *testing.T) {
	t.Helper()
	was := p.c.Moving
	same(t, "Start", Start(p.c), !was)
	same(t, "Moving", p.c.Moving, true)
	for _, at := range p.c.Row {
		same(t, "does it stand in Row", was || slices.Contains(p.c.Table.All(), at), true)
	}
}

// steps: a bit, of one thing and with work as it may be.
func (p pair) steps(t *testing.T) {
	t.Helper()
	c := p.c
	if !c.Moving {
		n, more := Step(c)
		same(t, "Step", n, 0)
		same(t, "more", more, false)
		return
	}
	row, left, scan, minors, count := len(c.Row), c.Rem.Left(), c.Scan, c.Done.Minors, p.old()
	work, more := Step(c)
	same(t, "Moving", c.Moving, more)
	if !more {
		same(t, "Minors", c.Done.Minors, minors+1)
		begin, _ := c.Young.Begin()
		same(t, "the cursor is behind all", scan, begin+c.Young.Used())
		lists(t, "Row, Rem, Left and Copied", []int{row + len(c.Row), left, c.Young.Left(), c.Copied}, 0, 0, 0, 0)
		same(t, "is work as it may be", work > 0 && work <= 8, true)
		return
	}
	ofRow, ofRem, words := row+p.old()-count-len(c.Row), left-c.Rem.Left(), c.Scan-scan
	things := ofRow + ofRem
	if words > 0 {
		things++
	}
	words = max(words, ofRow*(c.C.Largest+api.Extra), ofRem*c.C.Page)
	if things != 1 || work < 1 || work > 2*words+8 {
		t.Fatalf("the work is %d, of %d things", work, things)
	}
}

// old: how many objects are old.
func (p pair) old() int {
	return len(p.c.Old.Starts(0, api.MaxWords))
}

// runs: a few bits.
func (p pair) runs(t *testing.T, work int) {
	t.Helper()
	was := p.c.Moving
	done := Run(p.c, work)
	if done < 0 || was && p.c.Moving && done < work || !was && done != 0 {
		t.Fatalf("Run(%d): %d", work, done)
	}
}

// whole: a cycle without anything else meanwhile: behind it there is just what handles and old objects came to ahead of it.
func (p pair) whole(t *testing.T) {
	t.Helper()
	for p.c.Moving {
		p.steps(t)
	}
	words, promoted := reached(p.c), p.c.Done.Promoted
	p.starts(t)
	for n := 0; p.c.Moving; n++ {
		p.steps(t)
		p.agrees(t)
		same(t, "is that too many bits", n > 1000, false)
	}
	same(t, "words", p.c.Young.Used()+p.c.Done.Promoted-promoted, words)
}

// reached: the words of all that is young and that handles and old objects come to, while not Moving.
func reached(c *core.Core) int {
	met := map[int]struct{}{}
	words := 0
	list := append(c.Table.All(), c.Old.Starts(0, api.MaxWords)...)
	for len(list) > 0 {
		at := list[0]
		list = list[1:]
		h, e := obj.Head(c.Arena, at)
		if _, ok := met[at]; ok || at == 0 || e != api.OK {
			continue
		}
		met[at] = struct{}{}
		_, old := c.Old.Size(at)
		if !old && !c.Young.In(at) {
			continue // what a thing of no use refers to may be free
		}
		if !old {
			words += obj.Words(h)
		}
		for n := range h.Ptrs {
			w, _ := obj.Field(c.Arena, at, n)
			list = append(list, int(w))
		}
	}
	return words
}

// startMajor: what handles hold is found.
func (p pair) startMajor() {
	if p.c.Phase != api.Idle {
		return
	}
	marks(p.c)
	for _, at := range p.c.Table.All() {
		p.c.Mark(at)
	}
}

// stepMajor: one that was found is looked at, or a page is swept.
func (p pair) stepMajor() {
	switch c := p.c; c.Phase {
	case api.Marks:
		if at, ok := c.Grey.Pop(); ok {
			p.shade(c.Now(at))
		} else if c.Grey.Lost() {
			c.Grey.Found()
			for _, at := range p.all() {
				p.shade(at)
			}
		} else {
			c.Phase = api.Sweep
			c.Old.Pend()
		}
	case api.Sweep:
		p.sweep()
	}
}

// shade: if it is grey, it is not any more, and all that it refers to is found.
func (p pair) shade(at int) {
	h, e := obj.Head(p.c.Arena, at)
	if e != api.OK || !h.Grey {
		return
	}
	h.Grey = false
	obj.SetHead(p.c.Arena, at, h)
	for n := range h.Ptrs {
		w, _ := obj.Field(p.c.Arena, at, n)
		p.c.Mark(int(w))
	}
}

// all: where all objects are, but for those that were moved away.
func (p pair) all() []int {
	list := p.c.Old.Starts(0, api.MaxWords)
	for _, at := range p.halves() {
		if p.c.Now(at) == at {
			list = append(list, at)
		}
	}
	return list
}

// halves: where all objects of both halves begin.
func (p pair) halves() []int {
	var list []int
	now, other := p.c.Young.Begin()
	for _, part := range [][2]int{{now, p.c.Young.Used()}, {other, p.c.Young.Left()}} {
		for at := part[0]; at < part[0]+part[1]; {
			list = append(list, at)
			h, _ := obj.Head(p.c.Arena, at)
			at += obj.Words(h)
		}
	}
	return list
}

func (p pair) sweep() {
	c := p.c
	page, ok := c.Old.Pending()
	if !ok {
		c.Phase = api.Idle
		c.Done.Majors++
		return
	}
	for _, at := range c.Old.Starts(c.Old.Page(page)) {
		if h, _ := obj.Head(c.Arena, at); h.Parity != c.Parity {
			c.Old.Give(at)
		}
	}
	c.Old.Done(page)
}

// agrees: what handles come to is the same on both sides, and the core hangs together.
func (p pair) agrees(t *testing.T) (young, old int) {
	t.Helper()
	c := p.c
	for _, at := range p.halves() {
		same(t, "is something old in the nursery", headOf(t, c, at).Old, false)
	}
	met, places := map[int]*node{}, []int{}
	meets := func(at int, want *node) {
		t.Helper()
		if was, ok := met[at]; at == 0 || want == nil || ok {
			if (at == 0) != (want == nil) || ok && was != want {
				t.Fatalf("at %d stands something else", at)
			}
			return
		}
		met[at] = want
		places = append(places, at)
	}
	for h, at := range c.Table.All() {
		same(t, "does a handle hold what is to go", c.Young.From(at), false)
		meets(at, p.m[h])
	}
	for i := 0; i < len(places); i++ {
		at, want := places[i], met[places[i]]
		h := p.fits(t, at, want)
		if h.Old {
			old += class.Cell(c.C.Page, obj.Words(h))
		} else {
			young += obj.Words(h)
		}
		for n, ref := range want.refs {
			meets(c.Now(fieldOf(t, c, at, n)), ref)
		}
	}
	p.hasRoom(t)
	return young, old
}

func (p pair) hasRoom(t *testing.T) {
	t.Helper()
	if left := p.c.Young.Left(); !p.c.Moving {
		same(t, "Left", left, 0)
	} else if p.c.Young.Room() < left-p.c.Copied {
		t.Fatalf("Room %d, Left %d, Copied %d", p.c.Young.Room(), left, p.c.Copied)
	}
}

// fits: an object that is held has the node's shape and scalars, and the marks that it must have.
func (p pair) fits(t *testing.T, at int, want *node) api.Head {
	t.Helper()
	c := p.c
	h := headOf(t, c, at)
	same(t, "the shape", [2]int{h.Ptrs, h.Size - h.Ptrs}, [2]int{len(want.refs), len(want.scalars)})
	_, old := c.Old.Size(at)
	same(t, "Old", h.Old, old)
	same(t, "is it somewhere", old || c.Young.In(at) || c.Young.From(at), true)
	for n, w := range want.scalars {
		same(t, "a scalar", uint64(fieldOf(t, c, at, h.Ptrs+n)), w)
	}
	for n := range h.Ptrs {
		to := fieldOf(t, c, at, n)
		if from := c.Young.From(to); h.Old && (from || c.Young.In(to)) {
			same(t, "is it Noted, or in Row", h.Noted || slices.Contains(c.Row, at), true)
		} else if from && c.Young.In(at) {
			same(t, "is it at the cursor, or behind", at >= c.Scan, true)
		}
		if to = c.Now(to); to != 0 && c.Phase == api.Marks && h.Parity == c.Parity && !h.Grey {
			same(t, "what was found refers to what was found", headOf(t, c, to).Parity, c.Parity)
		}
	}
	if c.Phase != api.Marks && h.Old {
		same(t, "Parity of what is old", h.Parity, c.Parity)
	}
	return h
}

// finishes: both cycles come to their ends, and a whole one of each behind them; what is there then is what is held.
func (p pair) finishes(t *testing.T) {
	t.Helper()
	for p.c.Moving {
		p.steps(t)
	}
	for range 2 {
		for p.c.Phase != api.Idle {
			p.stepMajor()
		}
		p.startMajor()
	}
	for p.c.Phase != api.Idle {
		p.stepMajor()
	}
	p.whole(t)
	young, old := p.agrees(t)
	same(t, "what is young is held", p.c.Young.Used(), young)
	same(t, "what is old is held", p.c.Old.Used(), old)
}

// does: a script of four bytes an entry.
func does(t *testing.T, kind int, script []byte) {
	t.Helper()
	c := fresh(t, scripted(kind))
	p := pair{c, make([]*node, c.C.Handles)}
	for ; len(script) >= 4; script = script[4:] {
		p.does(t, int(script[0]), int(script[1])%6, int(script[2])%6, int(script[3])%4)
		p.agrees(t)
	}
	p.finishes(t)
}

// Long scripts in heaps of every kind: the numbers are always the same.
func TestScripts(t *testing.T) {
	for kind := range 405 {
		r := rand.New(rand.NewPCG(uint64(kind), 14))
		script := make([]byte, 4*300)
		for i := range script {
			script[i] = byte(r.Uint32())
		}
		does(t, kind, script)
	}
}

// FuzzScript goes through a script with both sides.
func FuzzScript(f *testing.F) {
	f.Add(0, []byte{0, 0, 1, 1, 0, 1, 1, 1, 5, 0, 1, 0, 11, 0, 0, 0, 17, 0, 0, 0, 3, 0, 2, 0, 12, 0, 0, 0, 13, 0, 0, 0, 15, 0, 5, 0})
	f.Add(404, []byte{0, 0, 1, 0, 5, 0, 0, 0, 16, 0, 0, 0, 16, 0, 0, 0, 16, 0, 0, 0, 0, 1, 2, 2, 5, 0, 1, 0, 9, 1, 0, 0, 12, 0, 0, 0, 11, 0, 0, 0, 13, 0, 0, 0, 3, 0, 5, 0, 18, 0, 0, 0})
	f.Fuzz(func(t *testing.T, kind int, script []byte) {
		does(t, int(uint(kind)%405), script[:min(len(script), 4000)])
	})
}
