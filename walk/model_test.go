package walk

import (
	"math/rand/v2"
	"testing"

	"tilth/api"
	"tilth/class"
	"tilth/core"
	"tilth/graph"
	"tilth/heap"
	"tilth/obj"
)

// pair is a heap, and the graph that it must be.
type pair struct {
	h *heap.Heap
	g *graph.Graph
}

func pairs(t *testing.T, c api.Config) pair {
	t.Helper()
	return pair{fresh(t, c), graph.New(c.Handles, c.Largest)}
}

// do: an entry on both sides; what finds no room is not done.
func (p pair) do(t *testing.T, x api.Step) {
	t.Helper()
	got := p.h.Do(x)
	if x.Kind == api.StepMake && got.E == api.ErrRoom {
		return
	}
	if x.Kind == api.StepIdle || x.Kind == api.StepForce {
		got = api.Answer{E: got.E}
	}
	is(t, "an answer", got, p.g.Do(x))
}

// agrees: what is told of the heap is the graph, and stands where it is said to.
func (p pair) agrees(t *testing.T) {
	t.Helper()
	c := p.h.Core()
	told := see(c)
	nodes, handles := p.g.Nodes()
	lists(t, "handles", told.Handles, handles...)
	alike(t, "nodes", told.Nodes, some(nodes...))
	is(t, "places", len(told.Live), len(nodes))
	for h, at := range c.Table.All() {
		leads(t, told.Live, c.Now(at), handles[h])
	}
	var words [2]int
	for i, at := range told.Live {
		x := headOf(t, c, at)
		is(t, "the shape", [2]int{x.Ptrs, x.Size}, [2]int{len(nodes[i].Ptrs), len(nodes[i].Ptrs) + len(nodes[i].Scalars)})
		for n, number := range nodes[i].Ptrs {
			leads(t, told.Live, c.Now(int(field(t, c, at, n))), number)
		}
		for n, w := range nodes[i].Scalars {
			is(t, "a scalar", field(t, c, at, x.Ptrs+n), w)
		}
		if x.Old {
			words[1] += class.Cell(c.C.Page, obj.Words(x))
		} else {
			words[0] += obj.Words(x)
		}
	}
	is(t, "words", told.Words, words)
}

// leads: a place is that of the object of a number.
func leads(t *testing.T, live []int, at, number int) {
	t.Helper()
	if at == 0 {
		is(t, "none", number, 0)
		return
	}
	is(t, "a place", live[number-1], at)
}

func field(t *testing.T, c *core.Core, at, n int) uint64 {
	t.Helper()
	w, e := obj.Field(c.Arena, at, n)
	is(t, "a field's error", e, api.OK)
	return w
}

// settles: both cycles end; then a whole major one, and a whole minor one. What is told is all that there is then.
func (p pair) settles(t *testing.T) {
	t.Helper()
	for _, x := range []api.Step{{Kind: api.StepIdle, A: 0}, {Kind: api.StepIdle, A: 1}, {Kind: api.StepForce, A: 1}, {Kind: api.StepIdle, A: 1}, {Kind: api.StepForce, A: 0}, {Kind: api.StepIdle, A: 0}} {
		x.B = api.MaxWords
		p.do(t, x)
		p.agrees(t)
	}
	young, old := Words(p.h.Core())
	s := p.h.Stats()
	is(t, "all that there is", [2]int{young, old}, [2]int{s.Young, s.Old})
}

// scripted is a heap of one of many kinds, most of them tight.
func scripted(kind int) api.Config {
	x := plain()
	x.Tenure = 1 + kind%3
	x.Stack, x.Buffer, x.Card = 1+kind/3%2, kind/6%3, []int{1, 4, 16}[kind/18%3]
	x.Pages = []int{0, 1, 2, 5}[kind/54%4]
	x.Minor, x.Major = []int{0, 1, 3, 64}[kind/2%4], []int{0, 1, 4, 64}[kind/5%4]
	x.MinorAt, x.MajorAt = []int{0, 20, 30, 40}[kind/7%4], min(x.Pages, kind/11%4)
	if kind%13 == 0 {
		x.Nursery, x.MinorAt = 400, 300
	}
	return x
}

// entry: one of a script, of four bytes. Some scalars are just like heads.
func entry(b []byte) api.Step {
	x := api.Step{Kind: int(b[0]) % 14, A: int(b[1]) % 7, B: int(b[2]) % 7, C: int(b[3]) % 5, V: uint64(b[1])<<56 | uint64(b[2])<<8 | uint64(b[3])}
	if b[0] >= 130 { // more of these
		x.Kind = []int{api.StepMake, api.StepSet, api.StepGet}[b[0]%3]
	}
	if b[3]%2 == 0 {
		x.V = 1<<44 | uint64(b[3]%3)<<16 | uint64(b[3]%7)
	}
	switch x.Kind {
	case api.StepMake:
		x.B %= 4
	case api.StepGet:
		x.C %= 3
	case api.StepSet, api.StepRead, api.StepWrite:
		x.B %= 3
	case api.StepIdle, api.StepForce:
		x.A, x.B = int(b[1])%2, int(b[2])%40
	}
	return x
}

// script: entries of four bytes on both sides.
func script(t *testing.T, kind int, list []byte) {
	t.Helper()
	p := pairs(t, scripted(kind))
	for n := 0; len(list) >= 4; list = list[4:] {
		p.do(t, entry(list))
		p.agrees(t)
		if n++; n%32 == 0 {
			still(t, p.h.Core())
		}
	}
	p.settles(t)
}

// random is a script of so many entries.
func random(seed, entries int) []byte {
	r := rand.New(rand.NewPCG(uint64(seed), 19))
	list := make([]byte, 4*entries)
	for i := range list {
		list[i] = byte(r.Uint32())
	}
	return list
}

func TestScripts(t *testing.T) {
	for kind := range 432 {
		script(t, kind, random(kind, 200))
	}
}

// FuzzScript goes through a script with both sides.
func FuzzScript(f *testing.F) {
	f.Add(0, []byte{1, 0, 1, 1, 1, 1, 1, 1, 3, 0, 0, 1, 12, 0, 0, 0, 11, 0, 5, 0, 2, 2, 0, 0, 12, 1, 0, 0, 11, 1, 9, 0, 6, 0, 0, 0})
	f.Add(431, []byte{1, 5, 2, 2, 5, 5, 0, 7, 7, 1, 5, 0, 8, 1, 5, 0, 9, 1, 0, 0, 10, 1, 0, 0, 4, 1, 0, 0, 13, 0, 0, 0, 0, 0, 0, 0})
	f.Fuzz(func(t *testing.T, kind int, list []byte) {
		script(t, int(uint(kind)%432), list[:min(len(list), 2000)])
	})
}
