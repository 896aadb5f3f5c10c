package bump

import (
	"slices"
	"testing"
)

// model knows the places of each half, and those that are used, one by one.
type model struct {
	places [2][]int // of the half that is filled, and of the other one
	used   [2][]int
}

func modelOf(from, words int) *model {
	m := &model{}
	for n := range words {
		m.places[0] = append(m.places[0], from+n)
		m.places[1] = append(m.places[1], from+words+n)
	}
	return m
}

func (m *model) take(words int) (int, bool) {
	free := m.places[0][len(m.used[0]):]
	if words < 1 || words > len(free) {
		return 0, false
	}
	m.used[0] = append(m.used[0], free[:words]...)
	return free[0], true
}

func (m *model) flip() bool {
	if len(m.used[1]) > 0 {
		return false
	}
	slices.Reverse(m.places[:])
	slices.Reverse(m.used[:])
	return true
}

func (m *model) drop() bool {
	had := len(m.used[1]) > 0
	m.used[1] = nil
	return had
}

// same: the space tells what the model knows.
func same(t *testing.T, s *Space, m *model) {
	t.Helper()
	used, left := len(m.used[0]), len(m.used[1])
	tells(t, s, look{used, left, len(m.places[0]) - used, m.places[0][0], m.places[1][0]})
	low, high := min(m.places[0][0], m.places[1][0]), max(m.places[0][0], m.places[1][0])
	for at := low - 2; at < high+len(m.places[0])+2; at++ {
		if s.In(at) != slices.Contains(m.used[0], at) || s.From(at) != slices.Contains(m.used[1], at) {
			t.Fatalf("at %d: In %v, From %v", at, s.In(at), s.From(at))
		}
	}
}

// call is one that changes a space.
type call struct {
	kind  int // 0: Flip, 1: Drop, else Take
	words int
}

// one: a call of both.
func one(t *testing.T, s *Space, m *model, c call) {
	t.Helper()
	switch c.kind {
	case 0:
		flips(t, s, m.flip())
	case 1:
		drops(t, s, m.drop())
	default:
		at, ok := s.Take(c.words)
		if want, is := m.take(c.words); at != want || ok != is {
			t.Fatalf("Take(%d): %d, %v, not %d, %v", c.words, at, ok, want, is)
		}
	}
	same(t, s, m)
}

// Every row of five calls on small halves: Flip, Drop, and Take from -1 to all and one more.
func TestEveryShortRow(t *testing.T) {
	const words, length = 3, 5
	calls := []call{{kind: 0}, {kind: 1}}
	for n := -1; n <= words+1; n++ {
		calls = append(calls, call{2, n})
	}
	rows := 1
	for range length {
		rows *= len(calls)
	}
	for row := range rows {
		s, m := New(1, words), modelOf(1, words)
		for range length {
			one(t, s, m, calls[row%len(calls)])
			row /= len(calls)
		}
	}
}

// FuzzRow goes through a row of calls, two bytes each, and holds each one against the model.
func FuzzRow(f *testing.F) {
	f.Add(uint8(9), uint8(9), []byte{2, 4, 0, 0, 2, 10, 0, 0, 1, 0, 1, 0, 0, 0, 2, 1, 2, 255})
	f.Add(uint8(0), uint8(0), []byte{0, 0, 0, 0, 2, 1, 2, 2, 1, 0, 0, 0})
	f.Add(uint8(200), uint8(63), []byte{2, 60, 2, 4, 2, 1, 0, 0, 2, 30, 0, 0, 1, 0, 2, 34, 0, 0, 0, 0, 1, 0, 0, 0})
	f.Fuzz(func(t *testing.T, from, words uint8, row []byte) {
		size := 1 + int(words%64)
		s, m := New(int(from), size), modelOf(int(from), size)
		same(t, s, m)
		for row = row[:min(len(row), 400)]; len(row) >= 2; row = row[2:] {
			one(t, s, m, call{int(row[0] % 4), int(int8(row[1]))})
		}
	})
}
