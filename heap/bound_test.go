package heap

import (
	"math/rand/v2"
	"testing"

	"tilth/api"
)

// extremes are heaps whose bounds are as near as may be: no tax, or the greatest one; cycles that begin with each Make,
// or when nothing is left; little to work with, and much to look at.
func extremes() []api.Config {
	var list []api.Config
	for _, largest := range []int{0, 1, 6, 64} {
		for _, tax := range [][2]int{{0, 0}, {0, 1}, {1, 0}, {64, 64}} {
			for _, pages := range []int{0, 1, 64} {
				for _, page := range []int{16, 256} {
					for _, at := range []int{0, 1} {
						for _, card := range []int{1, page} {
							list = append(list, api.Config{Handles: 64, Nursery: 66 + 1000*(card%2), Pages: pages, Page: page, Card: card, Buffer: 256 * at, Stack: 1, Tenure: 1 + at, Largest: largest, Minor: tax[0], Major: tax[1], MinorAt: 60 * at, MajorAt: pages * (1 - at)})
						}
					}
				}
			}
		}
	}
	return list
}

// dense: an entry for a heap of many handles; what is made is linked at once, so that much is held.
func dense(r *rand.Rand, c api.Config) []api.Step {
	h, from := r.IntN(c.Handles), r.IntN(c.Handles)
	ptrs := r.IntN(c.Largest + 1)
	n := 0
	if ptrs > 0 {
		n = r.IntN(ptrs)
	}
	switch r.IntN(12) {
	case 0:
		return []api.Step{{Kind: api.StepForce, A: r.IntN(2)}}
	case 1:
		return []api.Step{{Kind: api.StepIdle, A: r.IntN(2), B: r.IntN(100)}}
	case 2:
		return []api.Step{{Kind: api.StepClear, A: h}}
	case 3:
		return []api.Step{{Kind: api.StepGet, A: h, B: from, C: n}}
	case 4, 5:
		return []api.Step{{Kind: api.StepSet, A: h, B: n, C: from}}
	}
	return []api.Step{{Kind: api.StepMake, A: h, B: ptrs, C: r.IntN(c.Largest - ptrs + 1)}, {Kind: api.StepSet, A: h, B: n, C: from}}
}

// No entry asks for more words than it may.
func TestBounds(t *testing.T) {
	for i, c := range extremes() {
		p := pair{fresh(t, c), models(c)}
		r := rand.New(rand.NewPCG(uint64(i), 20))
		for range 400 {
			for _, x := range dense(r, c) {
				p.do(t, x)
			}
		}
		p.agrees(t)
	}
}
