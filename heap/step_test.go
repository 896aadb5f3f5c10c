package heap

import (
	"math"
	"testing"

	"tilth/api"
	"tilth/core"
	"tilth/major"
	"tilth/minor"
)

// scene: a heap with objects of several shapes, some of them old, amid what the two bits of kind say: a minor cycle,
// and a major one.
func scene(t *testing.T, kind int) *Heap {
	t.Helper()
	x := lazy()
	x.Nursery, x.MinorAt = 200, 200
	h := fresh(t, x)
	makes(t, h, 0, 2, 1)
	makes(t, h, 1, 0, 2)
	sets(t, h, 0, 1, 1)
	does(t, h, api.Step{Kind: api.StepWrite, A: 1, B: 1, V: math.MaxUint64}, api.Answer{})
	ages(t, h, 2)
	makes(t, h, 2, 1, 0)
	makes(t, h, 3, 3, 3)
	sets(t, h, 0, 0, 2)
	sets(t, h, 3, 2, 0)
	sets(t, h, 3, 0, 3)
	if kind&1 == 1 {
		forces(t, h, 0)
	}
	if kind&2 == 2 {
		forces(t, h, 1)
	}
	return h
}

// twins: two scenes that are the same; what one answers is held against what the other's core does.
func twins(t *testing.T, kind int, x api.Step, call func(c *core.Core) api.Answer) {
	t.Helper()
	h, other := scene(t, kind), scene(t, kind).Core()
	want := call(other)
	does(t, h, x, want)
	alike(t, "the core behind it", see(h.Core()), see(other))
}

// asked: each kind of entry that asks the core alone.
func asked(x api.Step) map[int]func(c *core.Core) api.Answer {
	return map[int]func(c *core.Core) api.Answer{
		api.StepGet:   func(c *core.Core) api.Answer { return api.Answer{E: c.Get(x.A, x.B, x.C)} },
		api.StepSet:   func(c *core.Core) api.Answer { return api.Answer{E: c.Set(x.A, x.B, x.C)} },
		api.StepWrite: func(c *core.Core) api.Answer { return api.Answer{E: c.Write(x.A, x.B, x.V)} },
		api.StepClear: func(c *core.Core) api.Answer { return api.Answer{E: c.Clear(x.A)} },
		api.StepCopy:  func(c *core.Core) api.Answer { return api.Answer{E: c.Copy(x.A, x.B)} },
		api.StepRead: func(c *core.Core) api.Answer {
			w, e := c.Read(x.A, x.B)
			return api.Answer{E: e, V: w}
		},
		api.StepSame: func(c *core.Core) api.Answer {
			yes, e := c.Same(x.A, x.B)
			return api.Answer{E: e, Yes: yes}
		},
		api.StepNil: func(c *core.Core) api.Answer {
			yes, e := c.Nil(x.A)
			return api.Answer{E: e, Yes: yes}
		},
		api.StepShape: func(c *core.Core) api.Answer {
			p, s, e := c.Shape(x.A)
			return api.Answer{E: e, N: p, V: uint64(s)}
		},
	}
}

// What an entry asks of the core, the core does, and nothing else.
func TestEntriesOfTheCore(t *testing.T) {
	few := []int{0, 1, 2, 3, 4, 5, 6, -1, math.MaxInt, math.MinInt}
	for kind := range 4 {
		for _, a := range few {
			for _, b := range few {
				for _, c := range []int{0, 1, 3, 4, 6, -1, math.MinInt} {
					x := api.Step{A: a, B: b, C: c, V: 77}
					for k, call := range asked(x) {
						x.Kind = k
						twins(t, kind, x, call)
					}
				}
			}
		}
	}
}

// Answers written out, of what the scene holds.
func TestAnswers(t *testing.T) {
	for kind := range 4 {
		h := scene(t, kind)
		for _, x := range []struct {
			x    api.Step
			want api.Answer
		}{
			{api.Step{Kind: api.StepShape, A: 0}, api.Answer{N: 2, V: 1}},
			{api.Step{Kind: api.StepShape, A: 3, B: 9, C: 9, V: 9}, api.Answer{N: 3, V: 3}},
			{api.Step{Kind: api.StepShape, A: 4}, api.Answer{E: api.ErrNil}},
			{api.Step{Kind: api.StepShape, A: 6}, api.Answer{E: api.ErrHandle}},
			{api.Step{Kind: api.StepRead, A: 1, B: 1}, api.Answer{V: math.MaxUint64}},
			{api.Step{Kind: api.StepRead, A: 1, B: 2}, api.Answer{E: api.ErrField}},
			{api.Step{Kind: api.StepRead, A: 5}, api.Answer{E: api.ErrNil}},
			{api.Step{Kind: api.StepGet, A: 4, B: 0, C: 1}, api.Answer{}},
			{api.Step{Kind: api.StepSame, A: 4, B: 1}, api.Answer{Yes: true}},
			{api.Step{Kind: api.StepSame, A: 4, B: 0}, api.Answer{}},
			{api.Step{Kind: api.StepSame, A: 4, B: 6}, api.Answer{E: api.ErrHandle}},
			{api.Step{Kind: api.StepNil, A: 5}, api.Answer{Yes: true}},
			{api.Step{Kind: api.StepNil, A: 4}, api.Answer{}},
			{api.Step{Kind: api.StepNil, A: -1}, api.Answer{E: api.ErrHandle}},
			{api.Step{Kind: api.StepGet, A: 5, B: 0, C: 0}, api.Answer{}},
			{api.Step{Kind: api.StepSame, A: 5, B: 2}, api.Answer{Yes: true}},
			{api.Step{Kind: api.StepGet, A: 5, B: 0, C: 2}, api.Answer{E: api.ErrField}},
			{api.Step{Kind: api.StepGet, A: 6, B: 0, C: 2}, api.Answer{E: api.ErrHandle}},
			{api.Step{Kind: api.StepCopy, A: 5, B: 3}, api.Answer{}},
			{api.Step{Kind: api.StepShape, A: 5}, api.Answer{N: 3, V: 3}},
			{api.Step{Kind: api.StepClear, A: 3}, api.Answer{}},
			{api.Step{Kind: api.StepSet, A: 3, B: 0, C: 0}, api.Answer{E: api.ErrNil}},
			{api.Step{Kind: api.StepSet, A: 5, B: 1, C: 3}, api.Answer{}},
			{api.Step{Kind: api.StepGet, A: 5, B: 5, C: 1}, api.Answer{}},
			{api.Step{Kind: api.StepNil, A: 5}, api.Answer{Yes: true}},
			{api.Step{Kind: api.StepWrite, A: 0, B: 0, V: 8}, api.Answer{}},
			{api.Step{Kind: api.StepRead, A: 0, B: 0, V: 9}, api.Answer{V: 8}},
			{api.Step{Kind: api.StepWrite, A: 0, B: 1, V: 8}, api.Answer{E: api.ErrField}},
		} {
			does(t, h, x.x, x.want)
		}
	}
}

// The document's own example.
func TestExampleOfTheWhole(t *testing.T) {
	h := fresh(t, plain())
	does(t, h, api.Step{Kind: api.StepMake, A: 0, B: 1, C: 1}, api.Answer{})
	does(t, h, api.Step{Kind: api.StepWrite, A: 0, B: 0, V: 7}, api.Answer{})
	does(t, h, api.Step{Kind: api.StepForce, A: 0}, api.Answer{Yes: true})
	does(t, h, api.Step{Kind: api.StepRead, A: 0, B: 0}, api.Answer{V: 7})
}

// A kind that is none does nothing, and so does an entry for a cycle that is none.
func TestNoSuchKind(t *testing.T) {
	for kind := range 4 {
		h := scene(t, kind)
		still(t, h, "a wrong entry", func() {
			for _, n := range all {
				for _, k := range append([]int{0, 13, 14, -2, 255, 256, 257}, far[:4]...) {
					does(t, h, api.Step{Kind: k, A: n, B: n, C: n, V: 5}, api.Answer{E: api.ErrArg})
				}
				if n == 0 || n == 1 {
					continue
				}
				for _, b := range all {
					does(t, h, api.Step{Kind: api.StepIdle, A: n, B: b}, api.Answer{E: api.ErrArg})
					does(t, h, api.Step{Kind: api.StepForce, A: n, B: b}, api.Answer{E: api.ErrArg})
				}
			}
		})
	}
}

// A cycle begins just if it is not under way, whatever the other one does.
func TestForce(t *testing.T) {
	for kind := range 4 {
		for a := range 2 {
			twins(t, kind, api.Step{Kind: api.StepForce, A: a, B: 5, C: -1, V: 3}, func(c *core.Core) api.Answer {
				return api.Answer{Yes: []func(c *core.Core) bool{minor.Start, major.Start}[a](c)}
			})
			h := scene(t, kind)
			does(t, h, api.Step{Kind: api.StepForce, A: a}, api.Answer{Yes: kind>>a&1 == 0})
			same(t, "Moving", h.Core().Moving, (kind|1<<a)&1 == 1)
			same(t, "Phase", h.Core().Phase == api.Marks, (kind|1<<a)&2 == 2)
			still(t, h, "a second time", func() {
				does(t, h, api.Step{Kind: api.StepForce, A: a}, api.Answer{})
			})
		}
	}
}

// Idle work is that of one cycle, as much as is asked for, or as there is.
func TestIdle(t *testing.T) {
	for kind := range 4 {
		for a := range 2 {
			for _, b := range append([]int{1, 2, 3, 5, 8, 13, 21, 34}, far...) {
				twins(t, kind, api.Step{Kind: api.StepIdle, A: a, B: b, C: 7, V: 9}, func(c *core.Core) api.Answer {
					return api.Answer{N: []func(c *core.Core, work int) int{minor.Run, major.Run}[a](c, b)}
				})
			}
		}
	}
}

// Without a cycle, and of no work, there is nothing to do.
func TestIdleWithNothingToDo(t *testing.T) {
	for kind := range 4 {
		h := scene(t, kind)
		still(t, h, "no work", func() {
			for a := range 2 {
				for _, b := range []int{0, -1, math.MinInt} {
					does(t, h, api.Step{Kind: api.StepIdle, A: a, B: b}, api.Answer{})
				}
				if kind>>a&1 == 0 {
					does(t, h, api.Step{Kind: api.StepIdle, A: a, B: math.MaxInt}, api.Answer{})
				}
			}
		})
	}
}

// Idle work of a cycle, part by part, comes to what it is in one.
func TestIdleInParts(t *testing.T) {
	for kind := 1; kind < 4; kind++ {
		for a := range 2 {
			whole, parts := scene(t, kind), scene(t, kind)
			want := whole.Do(api.Step{Kind: api.StepIdle, A: a, B: api.MaxWords}).N
			got := 0
			for n := 1; n > 0; got += n {
				n = parts.Do(api.Step{Kind: api.StepIdle, A: a, B: 1}).N
			}
			same(t, "the work", got, want)
			alike(t, "the parts", see(parts.Core()), see(whole.Core()))
			idles(t, whole, a)
		}
	}
}

// More work than MaxWords is not done in one entry. No cycle has that much, so that it is given places where nothing is.
func TestIdleAtMost(t *testing.T) {
	for _, b := range []int{api.MaxWords - 1, api.MaxWords, api.MaxWords + 1, math.MaxInt} {
		h := fresh(t, lazy())
		forces(t, h, 0)
		h.Core().Row = make([]int, api.MaxWords+5)
		does(t, h, api.Step{Kind: api.StepIdle, B: b}, api.Answer{N: min(b, api.MaxWords)})
		same(t, "what is left", len(h.Core().Row), api.MaxWords+5-min(b, api.MaxWords))
	}
}
