package graph

import (
	"math"
	"testing"

	"tilth/api"
)

// kinds are all kinds of entries, and numbers that are none.
func kinds() []int {
	list := append([]int{0, 13, 14}, far...)
	for kind := api.StepMake; kind <= api.StepForce; kind++ {
		list = append(list, kind)
	}
	return list
}

// A graph has as many handles as it is asked for, or as many as are nearest to that.
func TestNewHandles(t *testing.T) {
	for _, n := range append([]int{0, 1, 2, 31, 62}, far...) {
		want := min(max(n, 0), 64)
		g := New(n, 3)
		shows(t, g, make([]int, want))
		for _, h := range append([]int{0, want - 1, want, want + 1, n - 1, n}, far...) {
			e := api.OK
			if h < 0 || h >= want {
				e = api.ErrHandle
			}
			does(t, g, api.Step{Kind: api.StepNil, A: h}, api.Answer{E: e, Yes: e == api.OK})
		}
	}
}

// So it is with the fields of a node.
func TestNewLargest(t *testing.T) {
	for _, n := range append([]int{0, 1, 2, 31, 62}, far...) {
		want := min(max(n, 0), 64)
		g := New(2, n)
		for ptrs := range want + 1 {
			makes(t, g, 0, ptrs, want-ptrs)
			does(t, g, api.Step{Kind: api.StepShape}, api.Answer{N: ptrs, V: uint64(want - ptrs)})
			does(t, g, api.Step{Kind: api.StepMake, B: ptrs + 1, C: want - ptrs}, api.Answer{E: api.ErrSize})
			does(t, g, api.Step{Kind: api.StepMake, B: ptrs, C: want - ptrs + 1}, api.Answer{E: api.ErrSize})
		}
	}
}

// A graph that is none does nothing, whatever it is asked.
func TestNoGraph(t *testing.T) {
	var g *Graph
	for _, kind := range kinds() {
		for _, n := range all {
			does(t, g, api.Step{Kind: kind, A: n, B: n, C: n, V: 7}, api.Answer{E: api.ErrArg})
			does(t, g, api.Step{Kind: kind, B: n}, api.Answer{E: api.ErrArg})
		}
	}
	shows(t, g, nil)
}

// A graph that nobody made has no handles.
func TestZeroGraph(t *testing.T) {
	g := &Graph{}
	for _, kind := range kinds() {
		want := api.Answer{E: api.ErrArg}
		if kind >= api.StepMake && kind <= api.StepShape {
			want.E = api.ErrHandle
		} else if kind == api.StepIdle || kind == api.StepForce {
			want = api.Answer{}
		}
		does(t, g, api.Step{Kind: kind}, want)
	}
	shows(t, g, nil)
}

func TestKindsThatAreNone(t *testing.T) {
	g := scene(t)
	still(t, g, "what is no entry", func() {
		for _, kind := range append([]int{0, 13, 14, 15}, far...) {
			for _, n := range all {
				does(t, g, api.Step{Kind: kind, A: n, B: n, C: n, V: 7}, api.Answer{E: api.ErrArg})
				does(t, g, api.Step{Kind: kind, A: 1, B: n}, api.Answer{E: api.ErrArg})
			}
		}
	})
}

// There are no cycles: nothing is done, and nothing told.
func TestCycles(t *testing.T) {
	g := scene(t)
	still(t, g, "a cycle", func() {
		for _, kind := range []int{api.StepIdle, api.StepForce} {
			for _, a := range all {
				for _, b := range all {
					want := api.Answer{E: api.ErrArg}
					if a == 0 || a == 1 {
						want = api.Answer{}
					}
					does(t, g, api.Step{Kind: kind, A: a, B: b, C: b, V: 3}, want)
				}
			}
		}
	})
}

// There is room always.
func TestRoom(t *testing.T) {
	g := New(64, 64)
	for i := range 20000 {
		makes(t, g, i%64, 64, 0)
		if i > 0 {
			sets(t, g, i%64, 63, (i-1)%64)
		}
	}
	nodes, handles := g.Nodes()
	if len(nodes) != 20000 || len(handles) != 64 || g.Words() != 20000*66 {
		t.Fatal(len(nodes), len(handles), g.Words())
	}
}

// Numbers whose sums wrap round are no size.
func TestSizes(t *testing.T) {
	g := New(1, 6)
	for _, b := range all {
		for _, c := range all {
			want := api.Answer{E: api.ErrSize}
			if b >= 0 && c >= 0 && b <= 6 && c <= 6 && b+c <= 6 {
				want = api.Answer{}
			}
			does(t, g, api.Step{Kind: api.StepMake, B: b, C: c}, want)
			does(t, g, api.Step{Kind: api.StepMake, A: 1, B: b, C: c}, api.Answer{E: api.ErrHandle})
		}
	}
	makes(t, g, 0, 2, 3)
	for _, n := range []int{math.MinInt, -1, 7, math.MaxInt} {
		does(t, g, api.Step{Kind: api.StepMake, B: n}, api.Answer{E: api.ErrSize})
		does(t, g, api.Step{Kind: api.StepMake, C: n}, api.Answer{E: api.ErrSize})
	}
	shows(t, g, []int{1}, plain([]int{0, 0}, 0, 0, 0)) // what is refused leaves the handle as it is
}

// Graphs share nothing.
func TestGraphsLieApart(t *testing.T) {
	a, b := scene(t), scene(t)
	still(t, b, "another graph", func() {
		makes(t, a, 4, 2, 1)
		sets(t, a, 0, 0, 4)
		writes(t, a, 0, 0, 99)
		clears(t, a, 1, 2, 3)
	})
}
