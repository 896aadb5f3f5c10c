package class

import (
	"math"
	"math/big"
	"slices"
	"testing"
)

// sizes are the chapter's, all 77 of them, rising: 4 and 6, and those twice as great, up to 2^40.
func sizes() []int {
	var all []int
	for twice := range 39 {
		all = append(all, 4<<twice, 6<<twice)
	}
	slices.Sort(all)
	return all[:slices.Index(all, 1<<40)+1]
}

// far are numbers at the ends of int, and those near them.
var far = []int{math.MinInt, math.MinInt + 1, math.MinInt / 2, math.MinInt32, -1 << 40, -4096, 1 << 41, 1<<41 + 1, 1<<41 + 2, 1 << 42, 1 << 61, math.MaxInt / 2, math.MaxInt/2 + 1, math.MaxInt - 1, math.MaxInt}

// some are numbers below and above 0, those around each size and around its double, and far ones.
func some() []int {
	all := slices.Clone(far)
	for n := -20; n <= 20; n++ {
		all = append(all, n)
	}
	for _, size := range sizes() {
		all = append(all, size-1, size, size+1, 2*size-1, 2*size, 2*size+1)
	}
	slices.Sort(all)
	return slices.Compact(all)
}

// rounded is the first size that has so many words, or the last one.
func rounded(words int) int {
	all := sizes()
	for _, size := range all {
		if size >= words {
			return size
		}
	}
	return all[len(all)-1]
}

// large is the chapter's condition in numbers that don't wrap round; a shift rounds down below 0, too.
func large(page, words int) bool {
	half := new(big.Int).Rsh(big.NewInt(int64(page)), 1)
	return big.NewInt(int64(rounded(words))).Cmp(half) > 0
}

// pages is how many pages have so many words, and how many words these are, in numbers that don't wrap round.
func pages(page, words int) (count, all *big.Int) {
	count, all = new(big.Int), new(big.Int)
	if page < 1 || words < 1 {
		return count, all
	}
	count, rest := count.DivMod(big.NewInt(int64(words)), big.NewInt(int64(page)), new(big.Int))
	if rest.Sign() != 0 {
		count.Add(count, big.NewInt(1))
	}
	return count, all.Mul(count, big.NewInt(int64(page)))
}

// cell is the chapter's, and 0 where no int holds the words.
func cell(page, words int) int {
	if !large(page, words) {
		return rounded(words)
	}
	_, all := pages(page, words)
	if !all.IsInt64() {
		return 0
	}
	return int(all.Int64())
}

// check holds each call against the model.
func check(t *testing.T, page, words int) {
	t.Helper()
	if got, want := Round(words), rounded(words); got != want {
		t.Errorf("Round(%d): %d, not %d", words, got, want)
	}
	if got, want := Large(page, words), large(page, words); got != want {
		t.Errorf("Large(%d, %d): %v, not %v", page, words, got, want)
	}
	if want, _ := pages(page, words); big.NewInt(int64(Pages(page, words))).Cmp(want) != 0 {
		t.Errorf("Pages(%d, %d): %d, not %v", page, words, Pages(page, words), want)
	}
	if got, want := Cell(page, words), cell(page, words); got != want {
		t.Errorf("Cell(%d, %d): %d, not %d", page, words, got, want)
	}
	checkCells(t, page, words)
}

// checkCells: so many cells fit into the page, and one more does not.
func checkCells(t *testing.T, page, size int) {
	t.Helper()
	got := Cells(page, size)
	if page < 1 || size < 1 {
		if got != 0 {
			t.Errorf("Cells(%d, %d): %d, not 0", page, size, got)
		}
		return
	}
	taken := new(big.Int).Mul(big.NewInt(int64(got)), big.NewInt(int64(size)))
	left := new(big.Int).Sub(big.NewInt(int64(page)), taken)
	if got < 0 || left.Sign() < 0 || left.Cmp(big.NewInt(int64(size))) >= 0 {
		t.Errorf("Cells(%d, %d): %d, which leaves %v words", page, size, got, left)
	}
}

// P4.1: Round.

func TestSizes(t *testing.T) {
	all := sizes()
	if len(all) != 77 || all[76] != 1<<40 || !slices.Equal(all[:8], []int{4, 6, 8, 12, 16, 24, 32, 48}) {
		t.Fatal(len(all), all)
	}
	below := math.MinInt
	for _, size := range all {
		for _, words := range []int{below + 1, size - 1, size} {
			if got := Round(words); got != size {
				t.Errorf("Round(%d): %d, not %d", words, got, size)
			}
		}
		below = size
	}
	for _, words := range []int{1<<40 + 1, 3 << 39, 1 << 41, 1 << 62, math.MaxInt} {
		if got := Round(words); got != 1<<40 {
			t.Errorf("Round(%d): %d, not 2^40", words, got)
		}
	}
}

func TestRoundOfSmallOnes(t *testing.T) {
	for words, want := range []int{4, 4, 4, 4, 4, 6, 6, 8, 8, 12, 12, 12, 12, 16, 16, 16, 16, 24, 24} {
		if got := Round(words); got != want {
			t.Errorf("Round(%d): %d, not %d", words, got, want)
		}
	}
	for _, words := range []int{-1, -4, -5, -6, -8, math.MinInt} {
		if got := Round(words); got != 4 {
			t.Errorf("Round(%d): %d, not 4", words, got)
		}
	}
}

// P4.1: Cells.

func TestCells(t *testing.T) {
	for _, c := range []struct{ page, size, want int }{
		{64, 12, 5}, {64, 4, 16}, {64, 64, 1}, {64, 65, 0}, {63, 4, 15}, {1, 1, 1}, {256, 5, 51},
		{0, 4, 0}, {64, 0, 0}, {0, 0, 0}, {-1, 4, 0}, {64, -4, 0}, {-64, -4, 0},
		{math.MaxInt, 1, math.MaxInt}, {math.MaxInt, math.MaxInt, 1}, {math.MinInt, -1, 0}, {math.MinInt, math.MinInt, 0},
	} {
		if got := Cells(c.page, c.size); got != c.want {
			t.Errorf("Cells(%d, %d): %d, not %d", c.page, c.size, got, c.want)
		}
	}
}

// P4.1: Large.

func TestLarge(t *testing.T) {
	for _, c := range []struct {
		page, words int
		want        bool
	}{
		{32, 16, false}, {32, 17, true}, {32, 13, false}, {16, 8, false}, {16, 9, true},
		{8, 4, false}, {9, 4, false}, {7, 4, true}, {11, 5, true}, {12, 5, false}, {13, 6, false}, // half is rounded down
		{7, 0, true}, {8, 0, false}, {8, -9, false}, {0, 0, true}, {-1, 1, true}, {math.MinInt, math.MinInt, true},
		{1<<41 - 1, math.MaxInt, true}, {1 << 41, math.MaxInt, false}, {math.MaxInt, math.MaxInt, false}, {1, math.MaxInt, true},
	} {
		if got := Large(c.page, c.words); got != c.want {
			t.Errorf("Large(%d, %d): %v, not %v", c.page, c.words, got, c.want)
		}
	}
}

// P4.1: Pages.

func TestPages(t *testing.T) {
	for _, c := range []struct{ page, words, want int }{
		{16, 1, 1}, {16, 16, 1}, {16, 17, 2}, {16, 32, 2}, {16, 33, 3}, {1, 9, 9}, {256, 3, 1},
		{16, 0, 0}, {0, 16, 0}, {0, 0, 0}, {-1, 16, 0}, {16, -1, 0}, {-16, -32, 0}, {math.MinInt, -1, 0}, {-1, math.MinInt, 0},
		{1, math.MaxInt, math.MaxInt}, {2, math.MaxInt, 1 << 62}, {math.MaxInt, math.MaxInt, 1}, {math.MaxInt - 1, math.MaxInt, 2}, {math.MaxInt, 1, 1},
	} {
		if got := Pages(c.page, c.words); got != c.want {
			t.Errorf("Pages(%d, %d): %d, not %d", c.page, c.words, got, c.want)
		}
	}
}

// P4.1: Cell.

func TestCell(t *testing.T) {
	for _, c := range []struct{ page, words, want int }{
		{32, 13, 16}, {32, 16, 16}, {32, 17, 32}, {32, 24, 32}, {32, 32, 32}, {32, 33, 64}, {32, 65, 96}, {32, 0, 4}, {32, -7, 4},
		{7, 4, 7}, {7, 1, 7}, {3, 4, 6}, {1, 5, 5}, {7, 0, 0}, {7, -1, 0},
		{0, 5, 0}, {-3, 5, 0}, {-3, -5, 0}, {math.MinInt, math.MaxInt, 0}, {math.MinInt, math.MinInt, 0},
		{1, math.MaxInt, math.MaxInt}, {7, math.MaxInt, math.MaxInt}, {math.MaxInt, math.MaxInt, 1 << 40}, {1 << 41, math.MaxInt, 1 << 40},
		{2, math.MaxInt, 0}, {1 << 40, math.MaxInt, 0}, {1<<41 - 1, math.MaxInt, 0}, {3, math.MaxInt, 0}, // no int holds them
		{1 << 40, math.MaxInt - 1<<40 + 1, math.MaxInt - 1<<40 + 1},
	} {
		if got := Cell(c.page, c.words); got != c.want {
			t.Errorf("Cell(%d, %d): %d, not %d", c.page, c.words, got, c.want)
		}
	}
}

// P4.1: all calls, against the model.

func TestEachPage(t *testing.T) {
	for page := -3; page <= 300; page++ {
		for words := -3; words <= 300; words++ {
			check(t, page, words)
		}
	}
}

func TestFarNumbers(t *testing.T) {
	for _, page := range some() {
		for _, words := range some() {
			check(t, page, words)
		}
	}
}

func FuzzClass(f *testing.F) {
	f.Add(16, 9)
	f.Add(1<<40, math.MaxInt)
	f.Fuzz(func(t *testing.T, page, words int) { check(t, page, words) })
}
