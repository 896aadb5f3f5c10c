package graph

import (
	"math"
	"reflect"
	"slices"
	"testing"

	"tilth/api"
)

// far is numbers at the ends of int, and those that no handle, field or size has.
var far = []int{math.MinInt, math.MinInt + 1, math.MinInt / 2, math.MinInt32, -2, -1, 63, 64, 65, api.MaxWords, api.MaxWords + 1, math.MaxInt32, math.MaxInt / 2, math.MaxInt - 1, math.MaxInt}

// all is these, and all that a small graph has.
var all = append([]int{0, 1, 2, 3, 4, 5, 6, 7}, far...)

// does: an entry that is answered just so.
func does(t *testing.T, g *Graph, x api.Step, want api.Answer) {
	t.Helper()
	if got := g.Do(x); got != want {
		t.Fatalf("%+v: %+v, not %+v", x, got, want)
	}
}

// makes: a new node for a handle.
func makes(t *testing.T, g *Graph, a, b, c int) {
	t.Helper()
	does(t, g, api.Step{Kind: api.StepMake, A: a, B: b, C: c}, api.Answer{})
}

// sets: a reference of what a handle holds is what another one holds.
func sets(t *testing.T, g *Graph, a, b, c int) {
	t.Helper()
	does(t, g, api.Step{Kind: api.StepSet, A: a, B: b, C: c}, api.Answer{})
}

// writes: a scalar of what a handle holds.
func writes(t *testing.T, g *Graph, a, b int, v uint64) {
	t.Helper()
	does(t, g, api.Step{Kind: api.StepWrite, A: a, B: b, V: v}, api.Answer{})
}

// clears: these handles hold nothing.
func clears(t *testing.T, g *Graph, handles ...int) {
	t.Helper()
	for _, a := range handles {
		does(t, g, api.Step{Kind: api.StepClear, A: a}, api.Answer{})
	}
}

// picture is all that is to be seen of a graph.
type picture struct {
	Nodes   []api.Node
	Handles []int
	Words   int
}

// see: nil and empty lists are the same in it.
func see(g *Graph) picture {
	nodes, handles := g.Nodes()
	p := picture{Words: g.Words(), Handles: append([]int{}, handles...), Nodes: []api.Node{}}
	for _, x := range nodes {
		p.Nodes = append(p.Nodes, plain(x.Ptrs, x.Scalars...))
	}
	return p
}

// plain is a node of lists that are not nil.
func plain(ptrs []int, scalars ...uint64) api.Node {
	return api.Node{Ptrs: append([]int{}, ptrs...), Scalars: append([]uint64{}, scalars...)}
}

// shows: the graph has these nodes, and its handles hold those of these numbers.
func shows(t *testing.T, g *Graph, handles []int, nodes ...api.Node) {
	t.Helper()
	want := picture{Handles: append([]int{}, handles...), Nodes: append([]api.Node{}, nodes...)}
	for _, x := range nodes {
		want.Words += len(x.Ptrs) + len(x.Scalars) + 2
	}
	alike(t, "the graph", see(g), want)
}

// alike: both are the same.
func alike(t *testing.T, what string, got, want any) {
	t.Helper()
	if !reflect.DeepEqual(got, want) {
		t.Fatalf("%s: %+v, not %+v", what, got, want)
	}
}

// still: nothing of a graph is changed by it.
func still(t *testing.T, g *Graph, what string, call func()) {
	t.Helper()
	ahead := see(g)
	call()
	alike(t, what, see(g), ahead)
}

// spoils: fills a list, and its spare room.
func spoils[T any](list []T, with T) {
	list = list[:cap(list)]
	for i := range list {
		list[i] = with
	}
}

// apart: the lists share no memory, spare room included.
func apart(t *testing.T, lists ...[]int) {
	t.Helper()
	for i := range lists {
		copies := make([][]int, len(lists))
		for k := range lists {
			copies[k] = slices.Clone(lists[k])
		}
		spoils(lists[i], -7)
		for k := range lists {
			if k != i {
				alike(t, "a list beside another one", lists[k], copies[k])
			}
		}
		copy(lists[i], copies[i])
	}
}
