package graph

import (
	"slices"
	"testing"

	"tilth/api"
)

// The nodes of handles come first, then node by node what they refer to; each of them once.
func TestOrder(t *testing.T) {
	g := New(6, 6)
	for n := range 6 {
		makes(t, g, n, 3, 1)
		writes(t, g, n, 0, uint64(n))
	}
	sets(t, g, 4, 0, 0) // 4 to 0 and 1, 2 to 4 and 5, 5 to itself, 3 and 4; 2 and 4 stay held
	sets(t, g, 4, 2, 1)
	sets(t, g, 2, 0, 4)
	sets(t, g, 2, 1, 5)
	sets(t, g, 5, 0, 5)
	sets(t, g, 5, 1, 3)
	sets(t, g, 5, 2, 4)
	shows(t, g, []int{1, 2, 3, 4, 5, 6}, plain([]int{0, 0, 0}, 0), plain([]int{0, 0, 0}, 1), plain([]int{5, 6, 0}, 2), plain([]int{0, 0, 0}, 3), plain([]int{1, 0, 2}, 4), plain([]int{6, 4, 5}, 5))
	clears(t, g, 0, 1, 3, 5)
	shows(t, g, []int{0, 0, 1, 0, 2, 0}, plain([]int{2, 3, 0}, 2), plain([]int{4, 0, 5}, 4), plain([]int{3, 6, 2}, 5), plain([]int{0, 0, 0}, 0), plain([]int{0, 0, 0}, 1), plain([]int{0, 0, 0}, 3))
	does(t, g, api.Step{Kind: api.StepCopy, A: 0, B: 4}, api.Answer{}) // the first one that holds it counts
	does(t, g, api.Step{Kind: api.StepCopy, A: 5, B: 4}, api.Answer{})
	shows(t, g, []int{1, 0, 2, 0, 1, 1}, plain([]int{3, 0, 4}, 4), plain([]int{1, 5, 0}, 2), plain([]int{0, 0, 0}, 0), plain([]int{0, 0, 0}, 1), plain([]int{5, 6, 1}, 5), plain([]int{0, 0, 0}, 3))
	clears(t, g, 0, 4, 5)
	shows(t, g, []int{0, 0, 1, 0, 0, 0}, plain([]int{2, 3, 0}, 2), plain([]int{4, 0, 5}, 4), plain([]int{3, 6, 2}, 5), plain([]int{0, 0, 0}, 0), plain([]int{0, 0, 0}, 1), plain([]int{0, 0, 0}, 3))
	clears(t, g, 2)
	shows(t, g, make([]int, 6))
}

// They are met in breadth: what is near a handle comes ahead of what is far from the first one.
func TestBreadth(t *testing.T) {
	g := New(3, 2)
	for n := range 7 { // a tree, each node of which tells its place in it
		makes(t, g, 2, 2, 0)
		if n == 0 {
			does(t, g, api.Step{Kind: api.StepCopy, A: 0, B: 2}, api.Answer{})
			continue
		}
		above := (n - 1) / 2
		does(t, g, api.Step{Kind: api.StepCopy, A: 1, B: 0}, api.Answer{})
		if above > 0 {
			does(t, g, api.Step{Kind: api.StepGet, A: 1, B: 0, C: above - 1}, api.Answer{})
		}
		sets(t, g, 1, (n-1)%2, 2)
	}
	clears(t, g, 1, 2)
	shows(t, g, []int{1, 0, 0}, plain([]int{2, 3}), plain([]int{4, 5}), plain([]int{6, 7}), plain([]int{0, 0}), plain([]int{0, 0}), plain([]int{0, 0}), plain([]int{0, 0}))
}

// What nothing comes to is not met, be it referred to by itself, or by what goes, too.
func TestWhatGoes(t *testing.T) {
	g := scene(t)
	sets(t, g, 0, 0, 0)
	sets(t, g, 1, 0, 3)
	clears(t, g, 0, 2)
	shows(t, g, []int{0, 1, 0, 2, 0, 0}, plain([]int{2}), plain(nil))
	clears(t, g, 3)
	shows(t, g, []int{0, 1, 0, 0, 0, 0}, plain([]int{2}), plain(nil))
	sets(t, g, 1, 0, 5)
	shows(t, g, []int{0, 1, 0, 0, 0, 0}, plain([]int{0}))
}

func TestWords(t *testing.T) {
	g := New(4, 64)
	words := func(want int) {
		t.Helper()
		if got := g.Words(); got != want {
			t.Fatalf("%d words, not %d", got, want)
		}
	}
	words(0)
	makes(t, g, 0, 0, 0)
	words(2)
	makes(t, g, 1, 64, 0)
	words(2 + 66)
	makes(t, g, 2, 0, 64)
	words(2 + 66 + 66)
	makes(t, g, 2, 1, 2)
	words(2 + 66 + 5)
	sets(t, g, 1, 63, 2)
	sets(t, g, 2, 0, 1)
	does(t, g, api.Step{Kind: api.StepCopy, A: 3, B: 2}, api.Answer{})
	clears(t, g, 0, 2, 1)
	words(66 + 5)
	clears(t, g, 3)
	words(0)
}

// What is answered is new memory: no list shares any with another one, or with the graph.
func TestMemory(t *testing.T) {
	g := scene(t)
	sets(t, g, 0, 0, 3)
	want := see(g)
	var lists [][]int
	for range 3 {
		nodes, handles := g.Nodes()
		lists = append(lists, handles)
		for _, x := range nodes {
			lists = append(lists, x.Ptrs)
		}
	}
	apart(t, lists...)
	for range 3 {
		nodes, handles := g.Nodes()
		again, _ := g.Nodes()
		spoils(handles, 5)
		for i, x := range nodes {
			kept := slices.Clone(again[i].Scalars)
			spoils(x.Ptrs, 6)
			spoils(x.Scalars, 7)
			alike(t, "the scalars of another answer", again[i].Scalars, kept)
		}
		spoils(nodes, api.Node{})
		alike(t, "the graph", see(g), want)
	}
}

// The graph goes on without changing what was answered.
func TestAnswersStay(t *testing.T) {
	g := scene(t)
	nodes, handles := g.Nodes()
	want := see(g)
	writes(t, g, 0, 0, 5)
	sets(t, g, 0, 0, 3)
	clears(t, g, 0, 1)
	makes(t, g, 4, 3, 3)
	got := picture{Handles: handles, Words: want.Words}
	for _, x := range nodes {
		got.Nodes = append(got.Nodes, plain(x.Ptrs, x.Scalars...))
	}
	alike(t, "what was answered", got, want)
}
