package graph

import (
	"math"
	"testing"

	"tilth/api"
)

// scene: 0 and 2 hold a node of two references and three scalars, 1 one of one reference, 3 one without fields; 4 and
// 5 hold nothing.
func scene(t *testing.T) *Graph {
	t.Helper()
	g := New(6, 6)
	makes(t, g, 0, 2, 3)
	makes(t, g, 1, 1, 0)
	makes(t, g, 3, 0, 0)
	does(t, g, api.Step{Kind: api.StepCopy, A: 2, B: 0}, api.Answer{})
	sets(t, g, 0, 1, 1)
	sets(t, g, 1, 0, 0)
	for n := range 3 {
		writes(t, g, 0, n, uint64(100+n))
	}
	shows(t, g, []int{1, 2, 1, 3, 0, 0}, plain([]int{0, 2}, 100, 101, 102), plain([]int{1}), plain(nil))
	return g
}

// shape: how many references and scalars the node has that a handle of scene holds; the error, if there is none.
func shape(h int) (ptrs, scalars int, e api.Errno) {
	switch h {
	case 0, 2:
		return 2, 3, api.OK
	case 1:
		return 1, 0, api.OK
	case 3:
		return 0, 0, api.OK
	case 4, 5:
		return 0, 0, api.ErrNil
	}
	return 0, 0, api.ErrHandle
}

func isHandle(h int) api.Errno {
	if h < 0 || h > 5 {
		return api.ErrHandle
	}
	return api.OK
}

func below(n, count int) api.Errno {
	if n < 0 || n >= count {
		return api.ErrField
	}
	return api.OK
}

// fails: an entry is answered by the first of the errors, and changes nothing; or there is none.
func fails(t *testing.T, x api.Step, list ...api.Errno) {
	t.Helper()
	for _, e := range list {
		if e != api.OK {
			g := scene(t)
			still(t, g, "an error", func() { does(t, g, x, api.Answer{E: e}) })
			return
		}
	}
	if e := scene(t).Do(x).E; e != api.OK {
		t.Fatalf("%+v: %d", x, e)
	}
}

// Of every entry with every kind of wrong number the error is the one that is named first.
func TestErrors(t *testing.T) {
	for _, h := range all {
		ptrs, scalars, e := shape(h)
		for _, n := range all {
			fails(t, api.Step{Kind: api.StepRead, A: h, B: n, C: 1, V: 3}, e, below(n, scalars))
			fails(t, api.Step{Kind: api.StepWrite, A: h, B: n, C: 1, V: 3}, e, below(n, scalars))
			for _, other := range all {
				fails(t, api.Step{Kind: api.StepGet, A: other, B: h, C: n}, e, isHandle(other), below(n, ptrs))
				fails(t, api.Step{Kind: api.StepSet, A: h, B: n, C: other}, e, isHandle(other), below(n, ptrs))
			}
			fails(t, api.Step{Kind: api.StepCopy, A: h, B: n}, isHandle(h), isHandle(n))
			fails(t, api.Step{Kind: api.StepSame, A: h, B: n}, isHandle(h), isHandle(n))
		}
		fails(t, api.Step{Kind: api.StepMake, A: h, B: 1, C: 2}, isHandle(h))
		fails(t, api.Step{Kind: api.StepClear, A: h}, isHandle(h))
		fails(t, api.Step{Kind: api.StepNil, A: h}, isHandle(h))
		fails(t, api.Step{Kind: api.StepShape, A: h}, e)
	}
}

func TestReadAndWrite(t *testing.T) {
	g := scene(t)
	words := []uint64{0, 1, 42, 1 << 20, 1 << 44, math.MaxInt64, math.MaxInt64 + 1, math.MaxUint64 - 1, math.MaxUint64}
	for i := range words {
		for n := range 3 {
			writes(t, g, 0, n, words[(i+n)%len(words)])
		}
		still(t, g, "Read", func() {
			for n := range 3 { // the same node
				does(t, g, api.Step{Kind: api.StepRead, A: 2, B: n}, api.Answer{V: words[(i+n)%len(words)]})
			}
		})
	}
	writes(t, g, 2, 1, 9)
	shows(t, g, []int{1, 2, 1, 3, 0, 0}, plain([]int{0, 2}, math.MaxUint64, 9, 1), plain([]int{1}), plain(nil))
}

func TestShape(t *testing.T) {
	g := scene(t)
	still(t, g, "Shape", func() {
		for h := range 4 {
			ptrs, scalars, _ := shape(h)
			does(t, g, api.Step{Kind: api.StepShape, A: h}, api.Answer{N: ptrs, V: uint64(scalars)})
		}
	})
}

func TestGetAndSet(t *testing.T) {
	g := scene(t)
	does(t, g, api.Step{Kind: api.StepGet, A: 4, B: 0, C: 1}, api.Answer{})
	shows(t, g, []int{1, 2, 1, 3, 2, 0}, plain([]int{0, 2}, 100, 101, 102), plain([]int{1}), plain(nil))
	does(t, g, api.Step{Kind: api.StepGet, A: 4, B: 4, C: 0}, api.Answer{}) // the handle that it is asked of may be the one that holds it
	shows(t, g, []int{1, 2, 1, 3, 1, 0}, plain([]int{0, 2}, 100, 101, 102), plain([]int{1}), plain(nil))
	does(t, g, api.Step{Kind: api.StepGet, A: 4, B: 4, C: 0}, api.Answer{}) // a reference that is none
	shows(t, g, []int{1, 2, 1, 3, 0, 0}, plain([]int{0, 2}, 100, 101, 102), plain([]int{1}), plain(nil))
	sets(t, g, 0, 0, 0) // a node may refer to itself
	sets(t, g, 2, 1, 5) // what holds nothing makes it none
	shows(t, g, []int{1, 2, 1, 3, 0, 0}, plain([]int{1, 0}, 100, 101, 102), plain([]int{1}), plain(nil))
}

func TestHandles(t *testing.T) {
	g := scene(t)
	held := []int{1, 2, 1, 3, 0, 0}
	still(t, g, "Same and Nil", func() {
		for a := range held {
			for b := range held {
				does(t, g, api.Step{Kind: api.StepSame, A: a, B: b}, api.Answer{Yes: held[a] == held[b]})
			}
			does(t, g, api.Step{Kind: api.StepNil, A: a}, api.Answer{Yes: held[a] == 0})
		}
	})
	clears(t, g, 0, 0) // what holds nothing may be cleared
	for _, x := range [][2]int{{5, 1}, {2, 2}, {3, 4}} {
		does(t, g, api.Step{Kind: api.StepCopy, A: x[0], B: x[1]}, api.Answer{})
	}
	shows(t, g, []int{0, 1, 2, 0, 0, 1}, plain([]int{2}), plain([]int{0, 1}, 100, 101, 102))
}

// Nodes that look just alike are two.
func TestTwins(t *testing.T) {
	g := New(3, 4)
	makes(t, g, 0, 1, 1)
	makes(t, g, 1, 1, 1)
	does(t, g, api.Step{Kind: api.StepSame, A: 0, B: 1}, api.Answer{})
	does(t, g, api.Step{Kind: api.StepSame, A: 2, B: 2}, api.Answer{Yes: true})
	makes(t, g, 1, 0, 0)
	makes(t, g, 2, 0, 0)
	does(t, g, api.Step{Kind: api.StepSame, A: 1, B: 2}, api.Answer{})
	shows(t, g, []int{1, 2, 3}, plain([]int{0}, 0), plain(nil), plain(nil))
}

// A new node's fields are none and 0, whatever the handle held ahead.
func TestNewNodes(t *testing.T) {
	g := scene(t)
	makes(t, g, 0, 2, 3)
	shows(t, g, []int{1, 2, 3, 4, 0, 0}, plain([]int{0, 0}, 0, 0, 0), plain([]int{3}), plain([]int{0, 2}, 100, 101, 102), plain(nil))
}
