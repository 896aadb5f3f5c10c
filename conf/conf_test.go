package conf

import (
	"math"
	"math/big"
	"slices"
	"testing"

	"tilth/api"
)

// plain is a configuration well inside all bounds.
func plain() api.Config {
	return api.Config{Handles: 6, Nursery: 40, Pages: 4, Page: 16, Card: 8, Buffer: 1, Stack: 2, Tenure: 2, Largest: 6, Minor: 3, Major: 3, MinorAt: 20, MajorAt: 1}
}

// least and most have each number at its lower and at its upper end.
func least() api.Config {
	return api.Config{Handles: 1, Nursery: 8, Pages: 0, Page: 16, Card: 1, Buffer: 0, Stack: 1, Tenure: 1, Largest: 0, Minor: 0, Major: 0, MinorAt: 0, MajorAt: 0}
}

func most() api.Config {
	return api.Config{Handles: 64, Nursery: 4096, Pages: 64, Page: 256, Card: 256, Buffer: 256, Stack: 256, Tenure: 7, Largest: 64, Minor: 64, Major: 64, MinorAt: 4096, MajorAt: 64}
}

// far are numbers at the ends of int, and those whose sums and products wrap round.
var far = []int{math.MinInt, math.MinInt + 1, math.MinInt + 2, math.MinInt / 2, math.MinInt32, -4096, -257, -65, -16, -8, -2, -1, 1 << 16, math.MaxInt32, 1 << 32, math.MaxInt / 2, math.MaxInt - 1, math.MaxInt}

// bound is a field of a configuration with its ends, which may hang on other fields.
type bound struct {
	name string
	of   func(c *api.Config) *int
	ends func(c api.Config) (from, to int)
}

func fixed(from, to int) func(api.Config) (int, int) {
	return func(api.Config) (int, int) { return from, to }
}

// bounds are the chapter's, written out in numbers; Card is apart.
func bounds() []bound {
	return []bound{
		{"Handles", func(c *api.Config) *int { return &c.Handles }, fixed(1, 64)},
		{"Nursery", func(c *api.Config) *int { return &c.Nursery }, fixed(8, 4096)},
		{"Pages", func(c *api.Config) *int { return &c.Pages }, fixed(0, 64)},
		{"Page", func(c *api.Config) *int { return &c.Page }, fixed(16, 256)},
		{"Buffer", func(c *api.Config) *int { return &c.Buffer }, fixed(0, 256)},
		{"Stack", func(c *api.Config) *int { return &c.Stack }, fixed(1, 256)},
		{"Tenure", func(c *api.Config) *int { return &c.Tenure }, fixed(1, 7)},
		{"Largest", func(c *api.Config) *int { return &c.Largest }, func(c api.Config) (int, int) {
			if c.Nursery < 66 {
				return 0, c.Nursery - 2
			}
			return 0, 64
		}},
		{"Minor", func(c *api.Config) *int { return &c.Minor }, fixed(0, 64)},
		{"Major", func(c *api.Config) *int { return &c.Major }, fixed(0, 64)},
		{"MinorAt", func(c *api.Config) *int { return &c.MinorAt }, func(c api.Config) (int, int) { return 0, c.Nursery }},
		{"MajorAt", func(c *api.Config) *int { return &c.MajorAt }, func(c api.Config) (int, int) { return 0, c.Pages }},
	}
}

// may is the chapter's condition, without Check's own means.
func may(c api.Config) bool {
	for _, b := range bounds() {
		from, to := b.ends(c)
		if n := *b.of(&c); n < from || n > to {
			return false
		}
	}
	for n := 1; n <= 256; n++ {
		if n == c.Card {
			return c.Page/n*n == c.Page
		}
	}
	return false
}

func errno(ok bool) api.Errno {
	if ok {
		return api.OK
	}
	return api.ErrArg
}

func TestCheckTakes(t *testing.T) {
	for i, c := range []api.Config{plain(), least(), most()} {
		if e := Check(c); e != api.OK {
			t.Errorf("%d: Check = %v", i, e)
		}
	}
}

func TestCheckOfNothing(t *testing.T) {
	if e := Check(api.Config{}); e != api.ErrArg {
		t.Errorf("Check of a configuration without anything = %v", e)
	}
}

// Each field alone, at each number around its bounds and far from them, the others standing.
func TestCheckEachField(t *testing.T) {
	numbers := slices.Clone(far)
	for n := -70; n <= 4200; n++ {
		numbers = append(numbers, n)
	}
	for _, start := range []api.Config{plain(), least(), most()} {
		for _, b := range bounds() {
			for _, n := range numbers {
				c := start
				*b.of(&c) = n
				if e := Check(c); e != errno(may(c)) {
					t.Errorf("%s %d: Check(%+v) = %v", b.name, n, c, e)
				}
			}
		}
	}
}

// The ends of each field, so that a fault in may is seen, too.
func TestCheckEnds(t *testing.T) {
	for _, b := range bounds() {
		c := plain()
		c.Card = 1
		if b.name == "Nursery" || b.name == "Pages" {
			c.Largest, c.MinorAt, c.MajorAt = 0, 0, 0
		}
		from, to := b.ends(c)
		for _, n := range []int{from - 1, from, to, to + 1} {
			*b.of(&c) = n
			if e := Check(c); e != errno(n == from || n == to) {
				t.Errorf("%s %d: Check = %v", b.name, n, e)
			}
		}
	}
}

func TestCheckCard(t *testing.T) {
	for page := 16; page <= api.MaxPage; page++ {
		for card := -page; card <= 2*page; card++ {
			c := plain()
			c.Page, c.Card = page, card
			if e := Check(c); e != errno(may(c)) {
				t.Errorf("Page %d, Card %d: Check = %v", page, card, e)
			}
		}
	}
	for _, card := range far {
		c := plain()
		if c.Card = card; Check(c) != api.ErrArg {
			t.Errorf("Card %d is taken", card)
		}
	}
}

// A page of no words is a multiple of everything, and is still not one.
func TestCheckCardOfAWrongPage(t *testing.T) {
	for _, page := range []int{0, -16, -32, 8, 15, 257, 512, math.MinInt, math.MaxInt} {
		for _, card := range []int{-16, -1, 0, 1, 2, 8, 16, page} {
			c := plain()
			if c.Page, c.Card = page, card; Check(c) != api.ErrArg {
				t.Errorf("Page %d, Card %d is taken", page, card)
			}
		}
	}
}

func TestCheckLargestHangsOnTheNursery(t *testing.T) {
	for nursery := 8; nursery <= 80; nursery++ {
		for largest := -1; largest <= 80; largest++ {
			c := plain()
			c.Nursery, c.MinorAt, c.Largest = nursery, 0, largest
			if e, want := Check(c), errno(largest >= 0 && largest <= 64 && largest+2 <= nursery); e != want {
				t.Errorf("Nursery %d, Largest %d: Check = %v, want %v", nursery, largest, e, want)
			}
		}
	}
	for _, nursery := range far { // less Extra, the least ones wrap round
		c := plain()
		c.Nursery, c.MinorAt = nursery, 0
		if e := Check(c); e != api.ErrArg {
			t.Errorf("Nursery %d: Check = %v", nursery, e)
		}
	}
}

func TestCheckThresholdsHangOnTheSpaces(t *testing.T) {
	for n := -1; n <= 70; n++ {
		for size := 0; size <= 64; size++ {
			c := plain()
			c.Pages, c.MajorAt = size, n
			if e, want := Check(c), errno(n >= 0 && n <= size); e != want {
				t.Errorf("Pages %d, MajorAt %d: Check = %v", size, n, e)
			}
			c = plain()
			c.Nursery, c.Largest, c.MinorAt = size+8, 6, n
			if e, want := Check(c), errno(n >= 0 && n <= size+8); e != want {
				t.Errorf("Nursery %d, MinorAt %d: Check = %v", size+8, n, e)
			}
		}
	}
}

func TestPlaces(t *testing.T) {
	for _, c := range []struct {
		c                         api.Config
		first, other, mature, all int
	}{
		{plain(), 1, 41, 81, 145},
		{least(), 1, 9, 17, 17},
		{most(), 1, 4097, 8193, 24577},
	} {
		for _, n := range []int{0, 2, -2, 4, 1 << 40, math.MinInt, math.MaxInt - 1} {
			if got := Half(c.c, n); got != c.first {
				t.Errorf("Half(%d) = %d, want %d", n, got, c.first)
			}
		}
		for _, n := range []int{1, -1, 3, -3, 1<<40 + 1, math.MinInt + 1, math.MaxInt} {
			if got := Half(c.c, n); got != c.other {
				t.Errorf("Half(%d) = %d, want %d", n, got, c.other)
			}
		}
		if got := Mature(c.c); got != c.mature {
			t.Errorf("Mature = %d, want %d", got, c.mature)
		}
		if got := Words(c.c); got != c.all || got > api.MaxWords {
			t.Errorf("Words = %d, want %d", got, c.all)
		}
	}
}

// The parts lie side by side, behind place 0.
func TestPartsLieApart(t *testing.T) {
	for nursery := 8; nursery <= 4096; nursery += 7 {
		c := plain()
		c.Nursery = nursery
		for c.Pages = 1; c.Pages <= 64; c.Pages += 9 {
			if Half(c, 0) != 1 || Half(c, 1)-Half(c, 0) != nursery || Mature(c)-Half(c, 1) != nursery || Words(c)-Mature(c) != c.Pages*16 {
				t.Errorf("Nursery %d, Pages %d: %d, %d, %d, %d", nursery, c.Pages, Half(c, 0), Half(c, 1), Mature(c), Words(c))
			}
		}
	}
}

func TestMost(t *testing.T) {
	for _, c := range []struct {
		c            api.Config
		fields, want int
	}{
		{plain(), 0, ((2*6+8)*16 + 6 + 2 + 160) * 10 * 36},
		{plain(), 1, ((3*6+8)*16 + 6 + 2 + 160) * 10 * 36},
		{plain(), 6, ((8*6+8)*16 + 6 + 2 + 160) * 10 * 36},
		{least(), 0, (8*16 + 1 + 1 + 32) * 4 * 24},
		{most(), 0, ((2*128+8)*256 + 64 + 256 + 16384) * 68 * 152},
		{most(), 64, ((66*128+8)*256 + 64 + 256 + 16384) * 68 * 152},
	} {
		if got := Most(c.c, c.fields); got != c.want {
			t.Errorf("Most(%+v, %d) = %d, want %d", c.c, c.fields, got, c.want)
		}
	}
}

func TestMostIsOfTheNearestFields(t *testing.T) {
	for _, c := range []api.Config{plain(), least(), most()} {
		for _, n := range []int{-1, -2, -100, math.MinInt32, math.MinInt + 2, math.MinInt} {
			if got, want := Most(c, n), Most(c, 0); got != want {
				t.Errorf("Most(%d) = %d, want %d", n, got, want)
			}
		}
		for _, n := range []int{c.Largest + 1, c.Largest + 2, 1 << 20, math.MaxInt - 2, math.MaxInt} {
			if got, want := Most(c, n), Most(c, c.Largest); got != want {
				t.Errorf("Most(%d) = %d, want %d", n, got, want)
			}
		}
	}
}

// wanted is the chapter's sum, in numbers that don't wrap round.
func wanted(c api.Config, fields int) *big.Int {
	if fields < 0 {
		fields = 0
	}
	if fields > c.Largest {
		fields = c.Largest
	}
	n := func(i int) *big.Int { return big.NewInt(int64(i)) }
	sum := new(big.Int).Mul(n(fields+2), n(c.Minor+c.Major))
	sum.Mul(sum.Add(sum, n(8)), n(c.Page))
	for _, more := range []int{c.Handles, c.Stack, c.Nursery, c.Nursery, c.Nursery, c.Nursery} {
		sum.Add(sum, n(more))
	}
	return sum.Mul(sum.Mul(sum, n(c.Largest+4)), n(c.Largest+c.Largest+24))
}

// Each number that Most hangs on, through its whole range; those it does not hang on change nothing.
func TestMostHangsOnEachNumber(t *testing.T) {
	for _, start := range []api.Config{plain(), most()} {
		for _, b := range bounds() {
			from, to := b.ends(start)
			for n := from; n <= to; n++ {
				c := start
				*b.of(&c) = n
				c.Card, c.MinorAt, c.MajorAt = 1, 0, 0
				for _, fields := range []int{-1, 0, 3, 6, 64, 99} {
					if got := Most(c, fields); wanted(c, fields).Cmp(big.NewInt(int64(got))) != 0 {
						t.Fatalf("%s %d: Most(%d) = %d, want %v", b.name, n, fields, got, wanted(c, fields))
					}
				}
			}
		}
	}
}

// Of what Check does not take nothing is promised, but that each call answers.
func TestEveryCallAnswers(t *testing.T) {
	for _, n := range append([]int{0, 1, 2, 3}, far...) {
		for _, m := range append([]int{0, 1, 2, 3}, far...) {
			c := api.Config{Handles: n, Nursery: m, Pages: n, Page: m, Card: n, Buffer: m, Stack: n, Tenure: m, Largest: n, Minor: m, Major: n, MinorAt: m, MajorAt: n}
			if e := Check(c); e != api.ErrArg {
				t.Errorf("Check(%+v) = %v", c, e)
			}
			Words(c)
			Half(c, m)
			Mature(c)
			Most(c, m)
		}
	}
}

// FuzzCheck holds any configuration against the chapter's words; a bit of near says for each number whether it is taken near its bounds.
func FuzzCheck(f *testing.F) {
	f.Add(6, 40, 4, 16, 8, 1, 2, 2, 6, 3, 3, 20, 1, uint16(0))
	f.Add(64, 4096, 64, 256, 256, 256, 256, 7, 64, 64, 64, 4096, 64, uint16(0))
	f.Add(0, 0, 0, 0, 0, 0, 0, 0, 0, 0, 0, 0, 0, uint16(0xffff))
	f.Fuzz(func(t *testing.T, handles, nursery, pages, page, card, buffer, stack, tenure, largest, minor, major, minorAt, majorAt int, near uint16) {
		c := api.Config{Handles: handles, Nursery: nursery, Pages: pages, Page: page, Card: card, Buffer: buffer, Stack: stack, Tenure: tenure, Largest: largest, Minor: minor, Major: major, MinorAt: minorAt, MajorAt: majorAt}
		for i, b := range bounds() {
			if from, to := b.ends(c); near>>i&1 == 1 && from <= to && to <= 4096 {
				n := b.of(&c)
				*n = from - 1 + int(uint(*n)%uint(to-from+3))
			}
		}
		if e := Check(c); e != errno(may(c)) {
			t.Fatalf("Check(%+v) = %v", c, e)
		}
		if may(c) && wanted(c, handles).Cmp(big.NewInt(int64(Most(c, handles)))) != 0 {
			t.Fatalf("Most(%+v, %d) = %d", c, handles, Most(c, handles))
		}
	})
}
