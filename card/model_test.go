package card

import "testing"

// model knows the places of each card, dealt out one by one, and which cards are set.
type model struct {
	places [][]int
	set    map[int]bool
}

func modelOf(from, words, card int) *model {
	m := &model{set: map[int]bool{}}
	for n := range words {
		if n%card == 0 {
			m.places = append(m.places, nil)
		}
		last := len(m.places) - 1
		m.places[last] = append(m.places[last], from+n)
	}
	return m
}

// card: which one has a place, -1 for none.
func (m *model) card(at int) int {
	for card, places := range m.places {
		for _, place := range places {
			if place == at {
				return card
			}
		}
	}
	return -1
}

func (m *model) mark(at int) bool {
	card := m.card(at)
	if card < 0 {
		return false
	}
	m.set[card] = true
	return true
}

func (m *model) clear(card int) bool {
	was := m.set[card]
	delete(m.set, card)
	return was
}

// first: the least one of those that are set and not below card, -1 for none.
func (m *model) first(card int) int {
	best := -1
	for n := range m.set {
		if n >= card && (best < 0 || n < best) {
			best = n
		}
	}
	return best
}

func (m *model) part(card int) span {
	if card < 0 || card >= len(m.places) {
		return span{}
	}
	places := m.places[card]
	return span{places[0], places[len(places)-1] + 1}
}

// same: the table tells what the model knows, of each place from low to below high, and of all cards.
func same(t *testing.T, c *Table, m *model, low, high int) {
	t.Helper()
	for at := low; at < high; at++ {
		if got, want := c.Marked(at), m.set[m.card(at)]; got != want {
			t.Fatalf("Marked(%d): %v", at, got)
		}
	}
	for card := -3; card < len(m.places)+3; card++ {
		first(t, c, card, m.first(card))
		part(t, c, card, m.part(card))
	}
	count(t, c, len(m.set))
}

// Every small table, each place of it marked, each card cleared.
func TestEverySmallTable(t *testing.T) {
	for from := range 3 {
		for words := range 10 {
			for card := 1; card < 12; card++ {
				c, m := New(from, words, card), modelOf(from, words, card)
				for at := -4; at < from+words+13; at++ {
					marks(t, c, m.mark(at), at)
					same(t, c, m, -4, from+words+13)
				}
				for n := -2; n < words+2; n++ {
					clears(t, c, m.clear(n), n)
					same(t, c, m, -4, from+words+13)
				}
			}
		}
	}
}

// FuzzRow goes through a row of calls, two bytes each, and holds each one against the model.
func FuzzRow(f *testing.F) {
	f.Add(uint8(50), uint8(22), uint8(7), []byte{0, 0, 0, 21, 0, 22, 0, 255, 1, 0, 1, 0, 1, 3, 1, 255, 0, 8})
	f.Add(uint8(0), uint8(0), uint8(0), []byte{0, 0, 0, 1, 1, 0, 1, 1})
	f.Add(uint8(3), uint8(60), uint8(0), []byte{0, 59, 0, 60, 0, 0, 1, 59, 1, 60, 0, 30, 1, 0})
	f.Add(uint8(9), uint8(5), uint8(30), []byte{0, 4, 0, 5, 1, 1, 1, 0, 0, 0})
	f.Fuzz(func(t *testing.T, from, words, card uint8, row []byte) {
		low, size := int(from), int(words%64)
		c, m := New(low, size, 1+int(card%40)), modelOf(low, size, 1+int(card%40))
		same(t, c, m, low-3, low+size+45)
		for row = row[:min(len(row), 400)]; len(row) >= 2; row = row[2:] {
			n := int(int8(row[1]))
			if row[0]%2 == 0 {
				marks(t, c, m.mark(low+n), low+n)
			} else {
				clears(t, c, m.clear(n), n)
			}
			same(t, c, m, low-3, low+size+45)
		}
	})
}
