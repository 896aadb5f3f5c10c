package heap

import (
	"math"
	"testing"

	"tilth/api"
	"tilth/core"
)

// kinds are all kinds of entries, and numbers that are none.
func kinds() []int {
	list := append([]int{0, 13, 14}, far...)
	for kind := api.StepMake; kind <= api.StepForce; kind++ {
		list = append(list, kind)
	}
	return list
}

// wrong are configurations in each of which one number may not be.
func wrong() []api.Config {
	var list []api.Config
	for _, change := range []func(c *api.Config){
		func(c *api.Config) { *c = api.Config{} },
		func(c *api.Config) { c.Handles = 0 },
		func(c *api.Config) { c.Handles = api.MaxHandles + 1 },
		func(c *api.Config) { c.Nursery = 7 },
		func(c *api.Config) { c.Nursery = api.MaxNursery + 1 },
		func(c *api.Config) { c.Pages = -1 },
		func(c *api.Config) { c.Pages = math.MaxInt },
		func(c *api.Config) { c.Page = 15 },
		func(c *api.Config) { c.Page = api.MaxPage + 1 },
		func(c *api.Config) { c.Card = 0 },
		func(c *api.Config) { c.Card = 5 },
		func(c *api.Config) { c.Buffer = -1 },
		func(c *api.Config) { c.Stack = 0 },
		func(c *api.Config) { c.Tenure = 0 },
		func(c *api.Config) { c.Tenure = api.MaxAge + 1 },
		func(c *api.Config) { c.Largest = -1 },
		func(c *api.Config) { c.Largest = 39 },
		func(c *api.Config) { c.Minor = api.MaxTax + 1 },
		func(c *api.Config) { c.Major = -1 },
		func(c *api.Config) { c.MinorAt = 41 },
		func(c *api.Config) { c.MajorAt = math.MinInt },
	} {
		x := plain()
		change(&x)
		list = append(list, x)
	}
	return list
}

func TestNewChecks(t *testing.T) {
	for i, x := range wrong() {
		if h, e := New(x); h != nil || e != api.ErrArg {
			t.Errorf("%d: %v, %d", i, h, e)
		}
	}
}

func TestNewIsEmpty(t *testing.T) {
	least := api.Config{Handles: 1, Nursery: 8, Page: 16, Card: 1, Stack: 1, Tenure: 1}
	greatest := api.Config{Handles: 64, Nursery: 4096, Pages: 64, Page: 256, Card: 256, Buffer: 256, Stack: 256, Tenure: 7, Largest: 64, Minor: 64, Major: 64, MinorAt: 4096, MajorAt: 64}
	for _, x := range []api.Config{plain(), lazy(), least, greatest} {
		h := fresh(t, x)
		same(t, "Work", h.Work(), 0)
		same(t, "Stats", h.Stats(), api.Stats{Free: x.Pages * x.Page})
		same(t, "C", h.Core().C, x)
		parts, e := core.New(x)
		same(t, "the error", e, api.OK)
		alike(t, "the parts", see(h.Core()), see(parts))
	}
}

// A heap that nobody made does nothing, whatever it is asked.
func TestNoHeap(t *testing.T) {
	for _, h := range []*Heap{nil, {}} {
		for _, kind := range kinds() {
			for _, n := range all {
				does(t, h, api.Step{Kind: kind, A: n, B: n, C: n, V: 7}, api.Answer{E: api.ErrArg})
				does(t, h, api.Step{Kind: kind, B: n}, api.Answer{E: api.ErrArg})
			}
		}
		same(t, "Core", h.Core(), nil)
		same(t, "Stats", h.Stats(), api.Stats{})
		same(t, "Work", h.Work(), 0)
	}
}

// What is handed out is the core itself.
func TestCore(t *testing.T) {
	h := fresh(t, plain())
	c := h.Core()
	same(t, "Make", c.Make(0, 0, 1), api.OK)
	same(t, "Write", c.Write(0, 0, 7), api.OK)
	does(t, h, api.Step{Kind: api.StepRead}, api.Answer{V: 7})
	makes(t, h, 1, 2, 0)
	p, s, e := c.Shape(1)
	same(t, "Shape", [3]int{p, s, int(e)}, [3]int{2, 0, 0})
	same(t, "Core", h.Core(), c)
	c.C.Largest = 1
	does(t, h, api.Step{Kind: api.StepMake, C: 2}, api.Answer{E: api.ErrSize})
}

func TestStats(t *testing.T) {
	x := lazy()
	x.Tenure = 1
	h := fresh(t, x)
	makes(t, h, 0, 0, 3)
	makes(t, h, 1, 0, 1)
	clears(t, h, 1)
	does(t, h, api.Step{Kind: api.StepMake, B: 7}, api.Answer{E: api.ErrSize})
	same(t, "Stats", h.Stats(), api.Stats{Allocs: 2, Words: 8, Young: 8, Free: 64})
	forces(t, h, 0)
	same(t, "Stats", h.Stats(), api.Stats{Allocs: 2, Words: 8, Promoted: 5, Young: 8, Old: 6, Free: 58})
	idles(t, h, 0)
	same(t, "Stats", h.Stats(), api.Stats{Allocs: 2, Words: 8, Promoted: 5, Minors: 1, Old: 6, Free: 58})
	clears(t, h, 0)
	forces(t, h, 1)
	idles(t, h, 1)
	same(t, "Stats", h.Stats(), api.Stats{Allocs: 2, Words: 8, Promoted: 5, Minors: 1, Majors: 1, Free: 64})
	still(t, h, "Stats", func() { h.Stats() })
}

func TestWork(t *testing.T) {
	h := fresh(t, lazy())
	for range 10 {
		ahead, count := h.Work(), h.Core().Arena.Count()
		same(t, "Work", ahead, count)
		does(t, h, api.Step{Kind: api.StepMake, C: 1}, api.Answer{})
		if h.Work() <= ahead {
			t.Fatal(h.Work(), ahead)
		}
	}
	h.Core().Arena = nil
	same(t, "Work without words", h.Work(), 0)
}

// Heaps share nothing.
func TestHeapsLieApart(t *testing.T) {
	a, b := fresh(t, plain()), fresh(t, plain())
	still(t, b, "another heap", func() {
		makes(t, a, 0, 2, 1)
		makes(t, a, 1, 0, 2)
		sets(t, a, 0, 0, 1)
		does(t, a, api.Step{Kind: api.StepWrite, A: 1, V: 9}, api.Answer{})
		forces(t, a, 1)
		ages(t, a, 2)
		idles(t, a, 1)
	})
}

// Whatever parts are missing, every entry is answered.
func TestMissingParts(t *testing.T) {
	for missing := range 1 << 6 {
		for _, kind := range kinds() {
			for _, n := range []int{0, 1, 2, -1, 6, math.MaxInt, math.MinInt} {
				h := fresh(t, plain())
				makes(t, h, 0, 1, 1)
				makes(t, h, 1, 0, 0)
				sets(t, h, 0, 0, 1)
				forces(t, h, 0)
				forces(t, h, 1)
				loses(h.Core(), missing)
				h.Do(api.Step{Kind: kind, A: n, B: n, C: n})
				h.Do(api.Step{Kind: kind, A: n % 2, B: 1})
				h.Stats()
				h.Work()
			}
		}
	}
}

// loses: the parts whose bits are set are not there.
func loses(c *core.Core, missing int) {
	for bit, lose := range []func(){
		func() { c.Arena = nil },
		func() { c.Young = nil },
		func() { c.Old = nil },
		func() { c.Rem = nil },
		func() { c.Grey = nil },
		func() { c.Table = nil },
	} {
		if missing>>bit&1 == 1 {
			lose()
		}
	}
}

// Numbers of a configuration that others changed may be any; every entry is answered.
func TestNumbersThatMayNotBe(t *testing.T) {
	for _, n := range far {
		for _, change := range []func(c *api.Config){
			func(c *api.Config) { c.Handles, c.Nursery, c.Pages, c.Page, c.Card = n, n, n, n, n },
			func(c *api.Config) { c.Buffer, c.Stack, c.Tenure = n, n, n },
			func(c *api.Config) { c.Largest = n },
			func(c *api.Config) { c.Minor, c.Major, c.MinorAt, c.MajorAt = n, n, n, n },
			func(c *api.Config) { c.Minor, c.Major, c.MinorAt, c.MajorAt = n, n, math.MinInt, math.MaxInt },
		} {
			h := fresh(t, plain())
			change(&h.Core().C)
			for _, kind := range kinds() {
				for _, b := range far {
					h.Do(api.Step{Kind: kind, A: 1, B: b, C: b})
					h.Do(api.Step{Kind: kind, A: 0, B: 1, C: b})
				}
			}
			h.Stats()
		}
	}
}
