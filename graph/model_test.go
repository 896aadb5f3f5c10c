package graph

import (
	"math/rand/v2"
	"testing"

	"tilth/api"
	"tilth/heap"
)

// model is a graph as rows of one list: node n has the n-th row; 0 is none.
type model struct {
	held    []int
	largest int
	rows    [][]uint64 // of each node its references' numbers, then its scalars
	ptrs    []int      // of each node how many of them are references
}

func models(handles, largest int) *model {
	return &model{held: make([]int, handles), largest: largest, rows: make([][]uint64, 1), ptrs: make([]int, 1)}
}

// first: the first of these that is an error.
func first(list ...api.Errno) api.Errno {
	for _, e := range list {
		if e != api.OK {
			return e
		}
	}
	return api.OK
}

func (m *model) handle(h int) api.Errno {
	if h < 0 || h >= len(m.held) {
		return api.ErrHandle
	}
	return api.OK
}

func (m *model) object(h int) api.Errno {
	if e := m.handle(h); e != api.OK {
		return e
	}
	if m.held[h] == 0 {
		return api.ErrNil
	}
	return api.OK
}

// field: has the object that a handle holds, if it holds one, such a reference, or such a scalar?
func (m *model) field(h, n int, scalar bool) api.Errno {
	if m.object(h) != api.OK {
		return api.OK
	}
	x := m.held[h]
	count := m.ptrs[x]
	if scalar {
		count = len(m.rows[x]) - count
	}
	return below(n, count)
}

// error: the first one of an entry.
func (m *model) error(x api.Step) api.Errno {
	switch x.Kind {
	case api.StepMake:
		e := api.OK
		if x.B < 0 || x.C < 0 || x.B > m.largest || x.C > m.largest || x.B+x.C > m.largest {
			e = api.ErrSize
		}
		return first(m.handle(x.A), e)
	case api.StepGet:
		return first(m.object(x.B), m.handle(x.A), m.field(x.B, x.C, false))
	case api.StepSet:
		return first(m.object(x.A), m.handle(x.C), m.field(x.A, x.B, false))
	case api.StepRead, api.StepWrite:
		return first(m.object(x.A), m.field(x.A, x.B, true))
	case api.StepClear, api.StepNil:
		return m.handle(x.A)
	case api.StepCopy, api.StepSame:
		return first(m.handle(x.A), m.handle(x.B))
	case api.StepShape:
		return m.object(x.A)
	case api.StepIdle, api.StepForce:
		if x.A == 0 || x.A == 1 {
			return api.OK
		}
	}
	return api.ErrArg
}

// do: what an entry must answer.
func (m *model) do(x api.Step) api.Answer {
	if e := m.error(x); e != api.OK {
		return api.Answer{E: e}
	}
	switch x.Kind {
	case api.StepMake:
		m.held[x.A] = len(m.rows)
		m.rows, m.ptrs = append(m.rows, make([]uint64, x.B+x.C)), append(m.ptrs, x.B)
	case api.StepGet:
		m.held[x.A] = int(m.rows[m.held[x.B]][x.C])
	case api.StepSet:
		m.rows[m.held[x.A]][x.B] = uint64(m.held[x.C])
	case api.StepRead:
		y := m.held[x.A]
		return api.Answer{V: m.rows[y][m.ptrs[y]+x.B]}
	case api.StepWrite:
		y := m.held[x.A]
		m.rows[y][m.ptrs[y]+x.B] = x.V
	case api.StepClear:
		m.held[x.A] = 0
	case api.StepCopy:
		m.held[x.A] = m.held[x.B]
	case api.StepSame:
		return api.Answer{Yes: m.held[x.A] == m.held[x.B]}
	case api.StepNil:
		return api.Answer{Yes: m.held[x.A] == 0}
	case api.StepShape:
		y := m.held[x.A]
		return api.Answer{N: m.ptrs[y], V: uint64(len(m.rows[y]) - m.ptrs[y])}
	}
	return api.Answer{}
}

// see: what is to be seen of the model.
func (m *model) see() picture {
	number, order := make([]int, len(m.rows)), []int{}
	numbers := func(list []uint64) []int {
		all := []int{}
		for _, x := range list {
			if x != 0 && number[x] == 0 {
				order = append(order, int(x))
				number[x] = len(order)
			}
			all = append(all, number[x])
		}
		return all
	}
	var held []uint64
	for _, x := range m.held {
		held = append(held, uint64(x))
	}
	p := picture{Nodes: []api.Node{}, Handles: numbers(held)}
	for i := 0; i < len(order); i++ {
		row, ptrs := m.rows[order[i]], m.ptrs[order[i]]
		p.Nodes = append(p.Nodes, plain(numbers(row[:ptrs]), row[ptrs:]...))
		p.Words += 2 + len(row)
	}
	return p
}

// entry: one of a script, of four bytes; most of them are of few handles and fields.
func entry(b []byte) api.Step {
	x := api.Step{Kind: int(b[0]) % 14, A: int(b[1]) % 7, B: int(b[2]) % 7, C: int(b[3]) % 5, V: uint64(b[1])<<56 | uint64(b[2])<<8 | uint64(b[3])}
	if b[0] >= 130 { // more of these
		x.Kind = []int{api.StepMake, api.StepSet, api.StepGet}[b[0]%3]
	}
	switch x.Kind {
	case api.StepMake:
		x.B %= 4
	case api.StepGet:
		x.C %= 3
	case api.StepSet, api.StepRead, api.StepWrite:
		x.B %= 3
	}
	if b[1] >= 250 {
		x.A, x.B = far[int(b[2])%len(far)], far[int(b[3])%len(far)]
	} else if b[2] >= 250 {
		x.B, x.C = far[int(b[1])%len(far)], far[int(b[3])%len(far)]
	}
	return x
}

// script: entries of four bytes on both sides.
func script(t *testing.T, handles, largest int, list []byte) {
	t.Helper()
	g, m := New(handles, largest), models(handles, largest)
	for ; len(list) >= 4; list = list[4:] {
		x := entry(list)
		does(t, g, x, m.do(x))
		alike(t, "the graph", see(g), m.see())
	}
}

// random is a script of so many entries.
func random(seed, entries int) []byte {
	r := rand.New(rand.NewPCG(uint64(seed), 18))
	list := make([]byte, 4*entries)
	for i := range list {
		list[i] = byte(r.Uint32())
	}
	return list
}

func TestScripts(t *testing.T) {
	for seed := range 120 {
		script(t, seed%8, seed/8%8, random(seed, 400))
	}
}

// A heap with room answers each entry just so, but for the work of its cycles.
func TestAsHeap(t *testing.T) {
	for seed := range 40 {
		c := api.Config{Handles: 1 + seed%7, Nursery: 4096, Pages: 8, Page: 64, Card: 16, Buffer: 2, Stack: 2, Tenure: 1 + seed%3, Largest: seed % 8, Minor: 4 * (seed % 4), Major: 4, MinorAt: 100, MajorAt: 7}
		h, e := heap.New(c)
		if e != api.OK {
			t.Fatal(e)
		}
		g := New(c.Handles, c.Largest)
		for list := random(seed, 800); len(list) >= 4; list = list[4:] {
			x := entry(list)
			want := h.Do(x)
			if want.E == api.ErrRoom {
				t.Fatalf("%+v finds no room", x)
			}
			if x.Kind == api.StepIdle || x.Kind == api.StepForce {
				want = api.Answer{E: want.E}
			}
			does(t, g, x, want)
		}
	}
}

// The same script comes to the same graph, each time that it is asked for.
func TestScriptsTwice(t *testing.T) {
	for seed := range 20 {
		a, b := New(6, 6), New(6, 6)
		for list := random(seed, 300); len(list) >= 4; list = list[4:] {
			x := entry(list)
			does(t, a, x, b.Do(x))
			b.Nodes() // looking changes nothing
			b.Words()
		}
		for range 10 {
			alike(t, "the graph", see(a), see(b))
		}
	}
}

// FuzzScript goes through a script with both sides.
func FuzzScript(f *testing.F) {
	f.Add(6, 6, []byte{1, 0, 1, 1, 1, 1, 1, 1, 3, 0, 0, 1, 12, 0, 0, 0, 11, 0, 5, 0, 2, 2, 0, 0, 12, 1, 0, 0, 11, 1, 9, 0, 6, 0, 0, 0})
	f.Add(1, 0, []byte{1, 5, 2, 2, 5, 5, 0, 7, 7, 1, 5, 0, 8, 1, 5, 0, 9, 1, 0, 0, 10, 1, 0, 0, 4, 1, 0, 0, 13, 0, 0, 0, 0, 0, 0, 0})
	f.Fuzz(func(t *testing.T, handles, largest int, list []byte) {
		script(t, int(uint(handles)%65), int(uint(largest)%65), list[:min(len(list), 4000)])
	})
}
