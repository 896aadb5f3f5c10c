package pacer

import (
	"math"
	"testing"

	"tilth/api"
	"tilth/conf"
	"tilth/core"
)

// some are numbers around 0, around each bound of words and of a tax, and at the ends of int.
func some() []int {
	all := []int{math.MinInt, math.MinInt + 1, math.MinInt / 2, math.MinInt32, -1 << 20, math.MaxInt32, 1 << 32, 1 << 58, 1 << 60, 1 << 61, math.MaxInt / 2, math.MaxInt - 1, math.MaxInt}
	for _, around := range []int{0, 64, 4096, 1 << 20} {
		for n := around - 5; n <= around+5; n++ {
			all = append(all, n)
		}
	}
	return append(all, 1000, 65536)
}

// put is n, or the end of 0 to most that lies on its side.
func put(n, most int) int {
	switch {
	case n < 0:
		return 0
	case n > most:
		return most
	}
	return n
}

// sum is the product by adding.
func sum(words, tax int) int {
	n := 0
	for range put(tax, 64) {
		n += put(words, 1<<20)
	}
	return n
}

func TestQuantum(t *testing.T) {
	for _, words := range some() {
		for _, tax := range some() {
			if n, want := Quantum(words, tax), sum(words, tax); n != want {
				t.Fatalf("Quantum(%d, %d) = %d, not %d", words, tax, n, want)
			}
		}
	}
}

func TestQuantumNearZero(t *testing.T) {
	for words := -3; words <= 70; words++ {
		for tax := -3; tax <= 70; tax++ {
			if n, want := Quantum(words, tax), sum(words, tax); n != want {
				t.Fatalf("Quantum(%d, %d) = %d, not %d", words, tax, n, want)
			}
		}
	}
}

func TestQuantumEdges(t *testing.T) {
	for _, c := range []struct{ words, tax, want int }{
		{1, 1, 1}, {66, 64, 4224}, {66, 65, 4224}, {66, 63, 4158},
		{api.MaxWords, api.MaxTax, 1 << 26}, {api.MaxWords + 1, api.MaxTax, 1 << 26}, {api.MaxWords - 1, api.MaxTax, 1<<26 - 64},
		{math.MaxInt, math.MaxInt, 1 << 26}, {math.MinInt, math.MinInt, 0}, {math.MinInt, math.MaxInt, 0}, {math.MaxInt, math.MinInt, 0},
		{-1, -1, 0}, {-2, -3, 0}, {0, 0, 0}, {0, 1, 0}, {1, 0, 0},
		// Products that would wrap round to something small, or to 0.
		{1 << 62, 4, 1 << 22}, {1 << 58, 64, 1 << 26}, {1<<61 + 1, 8, 1 << 23},
	} {
		if n := Quantum(c.words, c.tax); n != c.want {
			t.Errorf("Quantum(%d, %d) = %d, not %d", c.words, c.tax, n, c.want)
		}
	}
}

func TestBounds(t *testing.T) {
	for _, bound := range some() {
		for _, n := range some() {
			minor, major := api.Config{MinorAt: bound}, api.Config{MajorAt: bound}
			if yes := Minor(minor, n); yes == (n < bound) {
				t.Fatalf("Minor at %d of %d: %v", n, bound, yes)
			}
			if yes := Major(major, n); yes == (n > bound) {
				t.Fatalf("Major at %d of %d: %v", n, bound, yes)
			}
		}
	}
}

// Each looks at its own number alone, also where the configuration may not be.
func TestOwnNumber(t *testing.T) {
	for _, other := range some() {
		c := api.Config{Handles: other, Nursery: other, Pages: other, Page: other, Minor: other, Major: other, Largest: other}
		c.MinorAt, c.MajorAt = 10, other
		if Minor(c, 9) || !Minor(c, 10) || !Minor(c, 11) {
			t.Errorf("Minor beside %d", other)
		}
		c.MinorAt, c.MajorAt = other, 10
		if !Major(c, 9) || !Major(c, 10) || Major(c, 11) {
			t.Errorf("Major beside %d", other)
		}
	}
}

func TestZeroConfig(t *testing.T) {
	var c api.Config
	if Minor(c, -1) || !Minor(c, 0) || !Major(c, 0) || Major(c, 1) {
		t.Error("bounds of 0")
	}
}

// A heap comes to the bounds: its nursery is filled, object by object.
func TestOfHeap(t *testing.T) {
	c := api.Config{Handles: 6, Nursery: 40, Pages: 4, Page: 16, Card: 8, Buffer: 1, Stack: 2, Tenure: 2, Largest: 6, Minor: 3, Major: 3, MinorAt: 20, MajorAt: 4}
	if conf.Check(c) != api.OK {
		t.Fatal("no configuration")
	}
	x, _ := core.New(c)
	for made := range 6 {
		used := x.Stats().Young
		if yes := Minor(c, used); yes != (made >= 4) {
			t.Errorf("%d made, %d used: %v", made, used, yes)
		}
		if e := x.Make(made, 1, 2); e != api.OK {
			t.Fatal(e)
		}
	}
	if !Major(c, x.Old.Free()) {
		t.Error("all 4 pages are free, and a cycle begins at 4")
	}
	c.MajorAt = 3
	if Major(c, x.Old.Free()) {
		t.Error("all 4 pages are free, and a cycle begins at 3")
	}
}
