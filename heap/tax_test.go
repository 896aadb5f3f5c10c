package heap

import (
	"math"
	"testing"

	"tilth/api"
	"tilth/core"
	"tilth/major"
	"tilth/minor"
)

// taxed: a StepMake by hand, of a core, with numbers that may be: who begins, how much of each, and then Make.
func taxed(c *core.Core, x api.Step) api.Answer {
	words := x.B + x.C + 2
	if !c.Moving && c.Young.Used() >= c.C.MinorAt {
		minor.Start(c)
	}
	if c.Phase == api.Idle && c.Old.Free() <= c.C.MajorAt {
		major.Start(c)
	}
	minor.Run(c, words*c.C.Minor)
	major.Run(c, words*c.C.Major)
	return api.Answer{E: c.Make(x.A, x.B, x.C)}
}

// taxes: the scene's heap, with other taxes and bounds.
func taxes(t *testing.T, kind int, c [4]int) *Heap {
	t.Helper()
	h := scene(t, kind)
	x := &h.Core().C
	x.Minor, x.Major, x.MinorAt, x.MajorAt = c[0], c[1], c[2], c[3]
	return h
}

// numbers: taxes, and bounds of which some say that a cycle is to begin.
func numbers() [][4]int {
	var list [][4]int
	for _, minor := range []int{0, 1, 3, 64} {
		for _, major := range []int{0, 1, 2, 64} {
			for _, at := range [][2]int{{0, 0}, {11, 2}, {12, 3}, {200, 4}, {200, 0}, {0, 4}} {
				list = append(list, [4]int{minor, major, at[0], at[1]})
			}
		}
	}
	return list
}

func TestTax(t *testing.T) {
	for kind := range 4 {
		for _, n := range numbers() {
			for _, x := range []api.Step{{A: 4}, {A: 0, B: 1, C: 2, V: 5}, {A: 5, B: 6}, {A: 3, C: 6}, {A: -1, B: 2}, {A: 6, B: 3, C: 3}, {A: math.MaxInt}} {
				x.Kind = api.StepMake
				h, other := taxes(t, kind, n), taxes(t, kind, n).Core()
				want := taxed(other, x)
				does(t, h, x, want)
				alike(t, "the core behind it", see(h.Core()), see(other))
			}
		}
	}
}

// What may not be asks for no tax, and for nothing else.
func TestNoTaxOfWrongSizes(t *testing.T) {
	for kind := range 4 {
		h := taxes(t, kind, [4]int{64, 64, 0, 4})
		still(t, h, "a wrong size", func() {
			for _, x := range [][2]int{
				{-1, 0}, {0, -1}, {-1, -1}, {7, 0}, {0, 7}, {4, 3}, {3, 4}, {6, 1}, {1, 6}, {-1, 7}, {7, -1}, {-1, 2}, {2, -1}, {-2, 8},
				{math.MaxInt, 0}, {0, math.MaxInt}, {math.MaxInt, math.MaxInt}, {math.MaxInt, 1}, {1, math.MaxInt}, {math.MinInt, 0}, {0, math.MinInt},
				{math.MinInt, math.MinInt}, {math.MinInt, math.MaxInt}, {math.MaxInt, math.MinInt}, {math.MinInt, 7}, {math.MaxInt, -1},
			} {
				does(t, h, api.Step{Kind: api.StepMake, A: 2, B: x[0], C: x[1]}, api.Answer{E: api.ErrSize})
				does(t, h, api.Step{Kind: api.StepMake, A: 6, B: x[0], C: x[1]}, api.Answer{E: api.ErrHandle})
			}
		})
	}
}

// A wrong handle, and no room, are found out behind the tax.
func TestTaxBesideErrors(t *testing.T) {
	h := taxes(t, 0, [4]int{0, 0, 0, 4})
	does(t, h, api.Step{Kind: api.StepMake, A: 6}, api.Answer{E: api.ErrHandle})
	same(t, "Moving", h.Core().Moving, true)
	same(t, "Phase", h.Core().Phase, api.Marks)

	h = fresh(t, lazy())
	for range 5 {
		makes(t, h, 0, 0, 6)
	}
	does(t, h, api.Step{Kind: api.StepMake, A: 1}, api.Answer{E: api.ErrRoom})
	same(t, "Moving", h.Core().Moving, true)
	does(t, h, api.Step{Kind: api.StepNil, A: 1}, api.Answer{Yes: true})
	same(t, "Allocs", h.Stats().Allocs, 5)
}

// A minor cycle begins ahead of the Make that finds so many words used, not behind the one that uses them.
func TestMinorAt(t *testing.T) {
	for at := 0; at <= 40; at++ {
		x := lazy()
		x.MinorAt = at
		h := fresh(t, x)
		for used := 0; used < 40; used += 4 {
			makes(t, h, 0, 0, 2)
			same(t, "Moving", h.Core().Moving, used >= at)
			if used >= at {
				break
			}
		}
	}
}

// What is moved, and stands in the half that is filled, counts; what is to be moved doesn't.
func TestMinorAtBehindACycle(t *testing.T) {
	x := lazy()
	x.MinorAt, x.Tenure = 8, 7
	h := fresh(t, x)
	makes(t, h, 0, 0, 6)
	makes(t, h, 1, 0, 2)
	does(t, h, api.Step{Kind: api.StepCopy, A: 1, B: 0}, api.Answer{})
	idles(t, h, 0)
	same(t, "Minors", h.Stats().Minors, 1)
	same(t, "Young", h.Stats().Young, 12)
	clears(t, h, 0, 1)
	makes(t, h, 2, 0, 0)
	same(t, "Moving", h.Core().Moving, true)
	idles(t, h, 0)
	same(t, "Young", h.Stats().Young, 2)
	makes(t, h, 2, 0, 4)
	same(t, "Moving", h.Core().Moving, false)
}

// A major cycle begins when so few pages are free, also by what the minor one, that begins with it, makes old.
func TestMajorAt(t *testing.T) {
	for at := 0; at <= 4; at++ {
		x := lazy()
		x.Tenure, x.Nursery, x.MinorAt, x.MajorAt, x.Largest = 1, 100, 100, at, 14
		h := fresh(t, x)
		for free := 4; free >= 0; free-- {
			same(t, "pages", h.Core().Old.Free(), free)
			makes(t, h, 0, 0, 14) // a page's words
			same(t, "Phase", h.Core().Phase == api.Marks, free <= at)
			if free <= at {
				break
			}
			ages(t, h, 1)
		}
	}
}

func TestMajorBeginsBehindMinor(t *testing.T) {
	x := lazy()
	x.Tenure, x.MajorAt = 1, 3
	h := fresh(t, x)
	makes(t, h, 0, 0, 1)
	same(t, "Phase", h.Core().Phase, api.Idle)
	h.Core().C.MinorAt = 3
	makes(t, h, 1, 0, 1)
	same(t, "Old", h.Stats().Old, 4)
	same(t, "Phase", h.Core().Phase, api.Marks)
}

// The room that the tax frees is there for what is made, and a cycle that is under way is not begun anew.
func TestTaxMakesRoom(t *testing.T) {
	x := lazy()
	x.Minor, x.MinorAt = 64, 39
	h := fresh(t, x)
	for range 5 {
		makes(t, h, 0, 0, 6)
	}
	does(t, h, api.Step{Kind: api.StepMake, A: 1, C: 6}, api.Answer{})
	same(t, "Minors", h.Stats().Minors, 1)
	same(t, "Moving", h.Core().Moving, false)
	same(t, "Young", h.Stats().Young, 16)
}

// Without a cycle under way a tax is nothing.
func TestTaxWithNothingToDo(t *testing.T) {
	x := plain()
	x.Minor, x.Major, x.MinorAt, x.MajorAt = 64, 64, 40, 0
	h := fresh(t, x)
	y := lazy()
	other := fresh(t, y)
	for range 3 {
		makes(t, h, 0, 1, 1)
		makes(t, other, 0, 1, 1)
	}
	same(t, "Work", h.Work(), other.Work())
	same(t, "Stats", h.Stats(), other.Stats())
}
