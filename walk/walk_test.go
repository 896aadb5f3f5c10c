package walk

import (
	"slices"
	"testing"

	"tilth/api"
	"tilth/class"
	"tilth/core"
	"tilth/heap"
)

func TestEmpty(t *testing.T) {
	for _, handles := range []int{1, 2, 6, 64} {
		x := plain()
		x.Handles = handles
		c := fresh(t, x).Core()
		shows(t, c, make([]int, handles))
		stands(t, c, 0, 0)
	}
}

// The objects of handles come first, then object by object what they refer to; each of them once.
func TestOrder(t *testing.T) {
	x := plain()
	x.Nursery, x.MinorAt = 400, 400
	h := fresh(t, x)
	c := h.Core()
	for n := range 6 {
		is(t, "the place", makes(t, h, n, 3, 1), 1+6*n)
		writes(t, h, n, 0, uint64(n))
	}
	sets(t, h, 4, 0, 0) // 4 to 0 and 1, 2 to 4 and 5, 5 to itself, 3 and 4; 2 and 4 stay held
	sets(t, h, 4, 2, 1)
	sets(t, h, 2, 0, 4)
	sets(t, h, 2, 1, 5)
	sets(t, h, 5, 0, 5)
	sets(t, h, 5, 1, 3)
	sets(t, h, 5, 2, 4)
	shows(t, c, []int{1, 2, 3, 4, 5, 6}, node([]int{0, 0, 0}, 0), node([]int{0, 0, 0}, 1), node([]int{5, 6, 0}, 2), node([]int{0, 0, 0}, 3), node([]int{1, 0, 2}, 4), node([]int{6, 4, 5}, 5))
	stands(t, c, 36, 0, 1, 7, 13, 19, 25, 31)
	clears(t, h, 0, 1, 3, 5)
	shows(t, c, []int{0, 0, 1, 0, 2, 0}, node([]int{2, 3, 0}, 2), node([]int{4, 0, 5}, 4), node([]int{3, 6, 2}, 5), node([]int{0, 0, 0}, 0), node([]int{0, 0, 0}, 1), node([]int{0, 0, 0}, 3))
	stands(t, c, 36, 0, 13, 25, 31, 1, 7, 19)
	does(t, h, api.Step{Kind: api.StepCopy, A: 0, B: 4}, api.Answer{}) // the first one that holds it counts
	does(t, h, api.Step{Kind: api.StepCopy, A: 5, B: 4}, api.Answer{})
	shows(t, c, []int{1, 0, 2, 0, 1, 1}, node([]int{3, 0, 4}, 4), node([]int{1, 5, 0}, 2), node([]int{0, 0, 0}, 0), node([]int{0, 0, 0}, 1), node([]int{5, 6, 1}, 5), node([]int{0, 0, 0}, 3))
	stands(t, c, 36, 0, 25, 13, 1, 7, 31, 19)
	clears(t, h, 2)
	shows(t, c, []int{1, 0, 0, 0, 1, 1}, node([]int{2, 0, 3}, 4), node([]int{0, 0, 0}, 0), node([]int{0, 0, 0}, 1))
	stands(t, c, 18, 0, 25, 1, 7)
	clears(t, h, 0, 4, 5)
	shows(t, c, make([]int, 6))
	stands(t, c, 0, 0)
}

// They are met in breadth: what is near a handle comes ahead of what is far from the first one.
func TestBreadth(t *testing.T) {
	h := fresh(t, plain())
	at := makes(t, h, 0, 2, 0)
	for n := 1; n < 7; n++ { // a tree; each one behind the first hangs below the one of half its number
		makes(t, h, 2, 2, 0)
		above := (n - 1) / 2
		does(t, h, api.Step{Kind: api.StepCopy, A: 1, B: 0}, api.Answer{})
		if above > 0 {
			does(t, h, api.Step{Kind: api.StepGet, A: 1, B: 0, C: above - 1}, api.Answer{})
		}
		sets(t, h, 1, (n-1)%2, 2)
	}
	clears(t, h, 1, 2)
	none := node([]int{0, 0})
	shows(t, h.Core(), []int{1, 0, 0, 0, 0, 0}, node([]int{2, 3}), node([]int{4, 5}), node([]int{6, 7}), none, none, none, none)
	stands(t, h.Core(), 28, 0, at, at+4, at+8, at+12, at+16, at+20, at+24)
}

// What nothing comes to is not met, be it referred to by itself, or by what goes, too.
func TestWhatGoes(t *testing.T) {
	h := fresh(t, plain())
	a := makes(t, h, 0, 1, 1)
	makes(t, h, 1, 2, 0)
	makes(t, h, 2, 0, 3)
	sets(t, h, 1, 0, 1)
	sets(t, h, 1, 1, 0)
	sets(t, h, 0, 0, 0)
	clears(t, h, 1, 2)
	shows(t, h.Core(), []int{1, 0, 0, 0, 0, 0}, node([]int{1}, 0))
	stands(t, h.Core(), 4, 0, a)
	ages(t, h, 1)
	shows(t, h.Core(), []int{1, 0, 0, 0, 0, 0}, node([]int{1}, 0))
	stands(t, h.Core(), 4, 0, 41)
}

// While Moving, what has not left its half yet stands there, and what has stands where it went.
func TestWhileMoving(t *testing.T) {
	h := fresh(t, plain())
	c := h.Core()
	makes(t, h, 0, 1, 1) // 1, 5, 9, in a row; the last one refers to the first one
	makes(t, h, 1, 1, 1)
	makes(t, h, 2, 1, 1)
	for n := range 3 {
		sets(t, h, n, 0, (n+1)%3)
		writes(t, h, n, 0, uint64(7+n))
	}
	clears(t, h, 1, 2)
	want := []api.Node{node([]int{2}, 7), node([]int{3}, 8), node([]int{1}, 9)}
	handles := []int{1, 0, 0, 0, 0, 0}
	for _, x := range []struct {
		work   int
		places []int
	}{{0, []int{41, 5, 9}}, {1, []int{41, 45, 9}}, {1, []int{41, 45, 49}}, {1, []int{41, 45, 49}}, {1, []int{41, 45, 49}}} {
		if c.Moving {
			idles(t, h, 0, x.work)
		} else {
			forces(t, h, 0)
		}
		shows(t, c, handles, want...)
		stands(t, c, 12, 0, x.places...)
	}
	is(t, "Moving", c.Moving, false)
}

// Of what a reference tells that leads to where something was, the one of now is met, and once.
func TestElderPlaces(t *testing.T) {
	h := fresh(t, plain())
	c := h.Core()
	makes(t, h, 0, 2, 0) // 1, refers to 5 twice
	makes(t, h, 1, 0, 1) // 5
	writes(t, h, 1, 0, 3)
	sets(t, h, 0, 0, 1)
	sets(t, h, 0, 1, 1)
	forces(t, h, 0) // to 41 and 45; 41's references still lead to 5
	w, e := c.Arena.Load(43)
	is(t, "the reference", [2]int{int(w), int(e)}, [2]int{5, 0})
	shows(t, c, []int{1, 2, 0, 0, 0, 0}, node([]int{2, 2}), node(nil, 3))
	stands(t, c, 7, 0, 41, 45)
	writes(t, h, 1, 0, 4) // what stands there still at 5 is not it
	shows(t, c, []int{1, 2, 0, 0, 0, 0}, node([]int{2, 2}), node(nil, 4))
	clears(t, h, 1)
	shows(t, c, []int{1, 0, 0, 0, 0, 0}, node([]int{2, 2}), node(nil, 4))
	stands(t, c, 7, 0, 41, 45)
}

// What is promoted while Moving stands among what is old already.
func TestPromoted(t *testing.T) {
	h := fresh(t, plain())
	c := h.Core()
	makes(t, h, 0, 1, 0)
	makes(t, h, 1, 2, 1)
	sets(t, h, 0, 0, 1)
	clears(t, h, 1)
	ages(t, h, 1)
	forces(t, h, 0) // 3 words in a cell of 4; what it refers to is still young
	shows(t, c, []int{1, 0, 0, 0, 0, 0}, node([]int{2}), node([]int{0, 0}, 0))
	stands(t, c, 5, 4, 81, 44)
	idles(t, h, 0, 1)
	shows(t, c, []int{1, 0, 0, 0, 0, 0}, node([]int{2}), node([]int{0, 0}, 0))
	stands(t, c, 0, 10, 81, 97) // 5 words in a cell of 6
	idles(t, h, 0, api.MaxWords)
	stands(t, c, 0, 10, 81, 97)
	clears(t, h, 0)
	stands(t, c, 0, 0)
}

// Of each size: the words of what is young, and those of a cell, or of whole pages, of what is old.
func TestWords(t *testing.T) {
	for _, page := range []int{16, 17, 48, 100, 256} {
		x := plain()
		x.Pages, x.Page, x.Largest, x.Nursery, x.Tenure, x.Card = 5, page, 64, 66, 1, 1
		x.MinorAt = x.Nursery
		for fields := range 65 {
			h := fresh(t, x)
			at := makes(t, h, 3, fields/2, fields-fields/2)
			stands(t, h.Core(), fields+2, 0, at)
			forces(t, h, 0)
			stands(t, h.Core(), 0, class.Cell(page, fields+2), holds(t, h, 3))
			is(t, "Stats", h.Stats().Old, class.Cell(page, fields+2))
		}
	}
}

// The words of several, of both kinds.
func TestWordsOfSeveral(t *testing.T) {
	x := plain()
	x.Nursery, x.MinorAt, x.Largest, x.Page, x.Card = 100, 100, 20, 20, 4
	h := fresh(t, x)
	makes(t, h, 0, 1, 3)
	makes(t, h, 1, 0, 10)
	ages(t, h, 2)
	makes(t, h, 2, 2, 4)
	makes(t, h, 3, 0, 0)
	stands(t, h.Core(), 8+2, 6+20, 201, 221, holds(t, h, 2), holds(t, h, 3))
	clears(t, h, 0, 2)
	stands(t, h.Core(), 2, 20, 221, holds(t, h, 3))
	clears(t, h, 3)
	stands(t, h.Core(), 0, 20, 221)
}

// In all phases of a major cycle, what is held is told alike; what is to be freed is not told.
func TestMajor(t *testing.T) {
	h := fresh(t, plain())
	c := h.Core()
	makes(t, h, 0, 1, 1)
	makes(t, h, 1, 1, 0)
	makes(t, h, 2, 0, 1)
	writes(t, h, 2, 0, 9)
	sets(t, h, 0, 0, 2)
	ages(t, h, 2)
	clears(t, h, 1, 2)
	var phases []int
	for n := 0; n < 20 && (n == 0 || c.Phase != api.Idle); n++ {
		if n == 0 {
			forces(t, h, 1)
		} else {
			idles(t, h, 1, 1)
		}
		phases = append(phases, c.Phase)
		shows(t, c, []int{1, 0, 0, 0, 0, 0}, node([]int{2}, 0), node(nil, 9))
		stands(t, c, 0, 8, 81, 89)
	}
	lists(t, "phases", slices.Compact(phases), api.Marks, api.Sweep, api.Idle)
}

func TestScalars(t *testing.T) {
	h := fresh(t, plain())
	list := []uint64{0, 1, 1 << 63, 1<<64 - 1, 1 << 44}
	makes(t, h, 5, 1, 5)
	for n, w := range list {
		writes(t, h, 5, n, w)
	}
	for range 3 {
		shows(t, h.Core(), []int{0, 0, 0, 0, 0, 1}, node([]int{0}, list...))
		ages(t, h, 1)
	}
}

// The largest heap that may be, full of the least objects, in a row.
func TestLargest(t *testing.T) {
	x := api.Config{Handles: 64, Nursery: 4096, Pages: 64, Page: 256, Card: 256, Buffer: 256, Stack: 256, Tenure: 1, Largest: 64, MinorAt: 4096}
	h := fresh(t, x)
	count := 0
	for ; h.Do(api.Step{Kind: api.StepMake, A: 1, B: 1, C: 0}).E == api.OK; count++ {
		sets(t, h, 1, 0, 0)
		does(t, h, api.Step{Kind: api.StepCopy, A: 0, B: 1}, api.Answer{})
	}
	is(t, "how many", count, 1365)
	clears(t, h, 1)
	for n, old := range []bool{false, true} {
		nodes, handles := Nodes(h.Core())
		lists(t, "handles", handles, append([]int{1}, make([]int, 63)...)...)
		is(t, "how many", len(nodes), count)
		for i, x := range nodes {
			lists(t, "a node's reference", x.Ptrs, (i+2)%(count+1))
			is(t, "a node's scalars", len(x.Scalars), 0)
		}
		young, cells := Words(h.Core())
		is(t, "words", [2]int{young, cells}, [2]int{3 * count * (1 - n), 4 * count * n})
		for _, at := range Live(h.Core()) {
			is(t, "Old", headOf(t, h.Core(), at).Old, old)
		}
		ages(t, h, 1)
	}
}

func TestNoCore(t *testing.T) {
	var c *core.Core
	nodes, handles := Nodes(c)
	young, old := Words(c)
	if nodes != nil || handles != nil || Live(c) != nil || young != 0 || old != 0 {
		t.Fatal(nodes, handles, Live(c), young, old)
	}
	var none *heap.Heap
	stands(t, none.Core(), 0, 0)
}

// What is told is new memory: no list shares any with another one, or with the core.
func TestMemory(t *testing.T) {
	h := fresh(t, plain())
	c := h.Core()
	makes(t, h, 0, 2, 2)
	makes(t, h, 1, 1, 3)
	sets(t, h, 0, 1, 1)
	sets(t, h, 1, 0, 0)
	writes(t, h, 1, 2, 8)
	forces(t, h, 0)
	want, parts := see(c), within(c)
	for range 2 {
		nodes, handles := Nodes(c)
		again, held := Nodes(c)
		live, places := Live(c), Live(c)
		spoils(handles, -5)
		spoils(live, -6)
		spoils(nodes[0].Ptrs, -7)
		spoils(nodes[0].Scalars, 7)
		alike(t, "another node", node(nodes[1].Ptrs, nodes[1].Scalars...), want.Nodes[1])
		spoils(nodes, api.Node{})
		alike(t, "what was told beside it", picture{some(again...), held, places, want.Words}, want)
		alike(t, "what is told", see(c), want)
		alike(t, "the core", within(c), parts)
	}
}

// spoils: fills a list, and its spare room.
func spoils[T any](list []T, with T) {
	list = list[:cap(list)]
	for i := range list {
		list[i] = with
	}
}

// The heap goes on without changing what was told.
func TestAnswersStay(t *testing.T) {
	h := fresh(t, plain())
	makes(t, h, 0, 1, 1)
	makes(t, h, 1, 0, 2)
	sets(t, h, 0, 0, 1)
	told, want := see(h.Core()), see(h.Core())
	writes(t, h, 0, 0, 5)
	clears(t, h, 1)
	makes(t, h, 3, 1, 1)
	ages(t, h, 3)
	alike(t, "what was told", told, want)
}
