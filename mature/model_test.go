package mature

import (
	"math"
	"math/rand"
	"slices"
	"testing"

	"tilth/api"
)

// model is the chapter's space, by what is in use alone: a page is a block as long as a cell of it is.
type model struct {
	from, pages, words int
	sizes              map[int]int // of what is in use, by where it begins
	pending            map[int]bool
}

func newModel(from, pages, page int) *model {
	return &model{
		from:    max(0, min(from, 1<<20)),
		pages:   max(0, min(pages, 64)),
		words:   max(1, min(page, 256)),
		sizes:   map[int]int{},
		pending: map[int]bool{},
	}
}

// rounded: 4, 6, 8, 12, 16, 24 and so on; 0 of what is greater than any page.
func rounded(words int) int {
	for _, size := range []int{4, 6, 8, 12, 16, 24, 32, 48, 64, 96, 128, 192, 256} {
		if words <= size {
			return size
		}
	}
	return 0
}

// page: the size of the cells of a block; else of something large that has the page, and where it begins; else 0.
func (m *model) page(n int) (cells, large, at int) {
	low, high := m.from+n*m.words, m.from+(n+1)*m.words
	for start, size := range m.sizes {
		if start < high && start+size > low {
			if size <= m.words/2 {
				return size, 0, 0
			}
			return 0, size, start
		}
	}
	return 0, 0, 0
}

func (m *model) isFree(n int) bool {
	cells, large, _ := m.page(n)
	return cells == 0 && large == 0
}

func (m *model) takeLarge(words int) (int, bool) {
	count := words / m.words
	if words%m.words != 0 {
		count++
	}
	for n := range m.pages {
		here := 0
		for n+here < m.pages && here < count && m.isFree(n+here) {
			here++
		}
		if here == count {
			at := m.from + n*m.words
			m.sizes[at] = count * m.words
			return at, true
		}
	}
	return 0, false
}

func (m *model) take(words int) (int, bool) {
	if words < 1 {
		return 0, false
	}
	size := rounded(words)
	if size == 0 || size > m.words/2 {
		return m.takeLarge(words)
	}
	for n := range m.pages {
		if cells, _, _ := m.page(n); cells != size || m.pending[n] {
			continue
		}
		for at := m.from + n*m.words; at+size <= m.from+(n+1)*m.words; at += size {
			if m.sizes[at] == 0 {
				m.sizes[at] = size
				return at, true
			}
		}
	}
	for n := range m.pages {
		if m.isFree(n) {
			at := m.from + n*m.words
			m.sizes[at] = size
			return at, true
		}
	}
	return 0, false
}

func (m *model) give(at int) bool {
	if m.sizes[at] == 0 {
		return false
	}
	delete(m.sizes, at)
	for n := range m.pages {
		if m.isFree(n) {
			delete(m.pending, n)
		}
	}
	return true
}

func (m *model) pend() {
	for n := range m.pages {
		cells, large, at := m.page(n)
		m.pending[n] = cells > 0 || large > 0 && at == m.from+n*m.words
	}
}

func (m *model) firstPending() (int, bool) {
	for n := range m.pages {
		if m.pending[n] {
			return n, true
		}
	}
	return 0, false
}

func (m *model) done(n int) bool {
	was := m.pending[n]
	delete(m.pending, n)
	return was
}

func (m *model) starts(from, to int) []int {
	var all []int
	for at := range m.sizes {
		if from <= at && at < to {
			all = append(all, at)
		}
	}
	slices.Sort(all)
	return all
}

// same: what a space shows of itself is as the model's.
func same(t *testing.T, s *Space, m *model) {
	t.Helper()
	if got, want := s.Starts(math.MinInt, math.MaxInt), m.starts(math.MinInt, math.MaxInt); !slices.Equal(got, want) {
		t.Fatalf("Starts: %v, not %v", got, want)
	}
	all := 0
	for at, size := range m.sizes {
		all += size
		if got, ok := s.Size(at); got != size || !ok {
			t.Fatalf("Size(%d): %d, %v, not %d", at, got, ok, size)
		}
	}
	frees := 0
	for n := range m.pages {
		if m.isFree(n) {
			frees++
		}
	}
	if s.Used() != all || s.Free() != frees {
		t.Fatalf("Used %d, Free %d, not %d and %d", s.Used(), s.Free(), all, frees)
	}
	got, ok := s.Pending()
	if want, is := m.firstPending(); got != want || ok != is {
		t.Fatalf("Pending: %d, %v, not %d, %v", got, ok, want, is)
	}
}

// play does to both what the numbers say, and holds them against each other.
func play(t *testing.T, s *Space, m *model, next func(n int) int, steps int) {
	t.Helper()
	end := m.from + m.pages*m.words
	for range steps {
		switch kind := next(16); {
		case kind < 6:
			words := next(m.words+2) - 1
			if next(4) == 0 {
				words = next(3*m.words + 2)
			}
			at, ok := s.Take(words)
			if want, is := m.take(words); at != want || ok != is {
				t.Fatalf("Take(%d): %d, %v, not %d, %v", words, at, ok, want, is)
			}
		case kind < 11:
			at := m.from - 2 + next(m.pages*m.words+4)
			if all := m.starts(at, end); len(all) > 0 && next(4) > 0 {
				at = all[0]
			}
			got, ok := s.Size(at)
			if want := m.sizes[at]; got != want || ok != (want > 0) {
				t.Fatalf("Size(%d): %d, %v, not %d", at, got, ok, want)
			}
			if got, want := s.Give(at), m.give(at); got != want {
				t.Fatalf("Give(%d): %v, not %v", at, got, want)
			}
		case kind < 14:
			n := next(m.pages+2) - 1
			if got, want := s.Done(n), m.done(n); got != want {
				t.Fatalf("Done(%d): %v, not %v", n, got, want)
			}
		case kind < 15:
			low := m.from - 2 + next(m.pages*m.words+4)
			high := m.from - 2 + next(m.pages*m.words+4)
			if got, want := s.Starts(low, high), m.starts(low, high); !slices.Equal(got, want) {
				t.Fatalf("Starts(%d, %d): %v, not %v", low, high, got, want)
			}
		default:
			s.Pend()
			m.pend()
		}
		same(t, s, m)
	}
}

func TestAsTheModel(t *testing.T) {
	r := rand.New(rand.NewSource(5))
	for _, page := range []int{1, 2, 3, 4, 7, 8, 9, 11, 12, 13, 16, 17, 24, 31, 32, 33, 64, 100, 255, 256} {
		for _, pages := range []int{0, 1, 2, 5, 9} {
			from := []int{0, 1, 81, 1000, api.MaxWords}[r.Intn(5)]
			play(t, New(from, pages, page), newModel(from, pages, page), r.Intn, 150)
		}
	}
	play(t, New(7, 64, 16), newModel(7, 64, 16), r.Intn, 1500)
}

func FuzzAsTheModel(f *testing.F) {
	f.Add(1000, 5, 16, []byte{0, 3, 3, 1, 5, 2, 15, 7, 7, 11, 2, 14, 1, 2})
	f.Add(-1, 65, 257, []byte{5, 200, 0, 90, 15, 6, 6, 6})
	f.Add(math.MaxInt, 3, math.MinInt, []byte{1, 1, 1, 10, 10, 10})
	f.Fuzz(func(t *testing.T, from, pages, page int, data []byte) {
		data = data[:min(len(data), 400)]
		next := func(n int) int {
			if len(data) == 0 {
				return 0
			}
			b := int(data[0])
			data = data[1:]
			return (b*b + b) / 2 % n
		}
		play(t, New(from, pages, page), newModel(from, pages, page), next, len(data)/2)
	})
}
