package minor

import (
	"math"
	"reflect"
	"testing"

	"tilth/api"
	"tilth/core"
)

// wide is a cycle with many bits, that has begun.
func wide(t *testing.T) *core.Core {
	t.Helper()
	c := rich(t)
	for h := range 3 {
		makes(t, c, 4, 1, 1)
		sets(t, c, 4, 0, h)
		sets(t, c, 0, h%2, 4)
	}
	begins(t, c)
	return c
}

// Run is Steps, as long as their work is below what was asked for, and there is more.
func TestRun(t *testing.T) {
	all := Run(wide(t), math.MaxInt)
	same(t, "is the whole of it more than a few bits", all > 20, true)
	for work := -3; work < all+10; work++ {
		a, b := wide(t), wide(t)
		want := 0
		for more := true; more && want < work; {
			var n int
			n, more = Step(b)
			want += n
		}
		same(t, "Run", Run(a, work), want)
		if !reflect.DeepEqual(see(a), see(b)) {
			t.Fatalf("Run of %d is not as its Steps", work)
		}
		same(t, "Moving", a.Moving, want < all)
		same(t, "Run of the rest", Run(a, math.MaxInt), all-want)
		same(t, "Minors", a.Done.Minors, b.Done.Minors+min(all-want, 1))
	}
}

// No work is asked for, and none is done.
func TestRunOfNothing(t *testing.T) {
	c := wide(t)
	still(t, c, "Run", func() {
		for _, work := range far {
			if work <= 0 {
				same(t, "Run", Run(c, work), 0)
			}
		}
	})
}

// However much work is asked for, it ends with the cycle, and begins no other one.
func TestRunOfMuch(t *testing.T) {
	for _, work := range []int{api.MaxWords, math.MaxInt32, math.MaxInt - 1, math.MaxInt} {
		c := wide(t)
		minors := c.Done.Minors
		same(t, "is there work", Run(c, work) > 0, true)
		same(t, "Moving", c.Moving, false)
		same(t, "Minors", c.Done.Minors, minors+1)
		still(t, c, "Run", func() { same(t, "Run", Run(c, work), 0) })
	}
}
