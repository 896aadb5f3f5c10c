package remset

import (
	"slices"
	"testing"
)

// model knows what was added, as Next would tell it, and sorts it anew whenever it is asked.
type model struct {
	from, words, card, room int
	look, rest              []told
}

func (m *model) add(at int) bool {
	if at < m.from || at >= m.from+m.words {
		return false
	}
	places := 0
	for _, x := range m.rest {
		if !x.part {
			places++
		}
	}
	what := place(at)
	if places >= m.room {
		what = m.cardOf(at)
	}
	if !what.part || !slices.Contains(m.rest, what) {
		m.rest = append(m.rest, what)
	}
	return true
}

// cardOf: cards are counted off till one ends behind the place.
func (m *model) cardOf(at int) told {
	end := m.from + m.words
	low := m.from
	for low+m.card <= at {
		low += m.card
	}
	return part(low, min(low+m.card, end))
}

func (m *model) flip() bool {
	if len(m.look) > 0 {
		return false
	}
	m.look, m.rest = m.rest, nil
	return true
}

// next: a place that was added first, else the card that begins first.
func (m *model) next() told {
	best := -1
	for n, x := range m.look {
		if best < 0 || m.look[best].part && (!x.part || x.from < m.look[best].from) {
			best = n
		}
	}
	if best < 0 {
		return told{}
	}
	what := m.look[best]
	m.look = slices.Delete(slices.Clone(m.look), best, best+1)
	return what
}

// both is a set, and the model of it.
type both struct {
	s *Set
	m *model
}

func bothOf(from, words, card, room int) both {
	return both{New(from, words, card, room), &model{from: from, words: words, card: card, room: room}}
}

// does: one call of each, with the same answer; which is Flip, Next or, of all other numbers, Add.
func (b both) does(t *testing.T, which, at int) {
	t.Helper()
	switch which {
	case 0:
		flips(t, b.s, b.m.flip())
	case 1:
		tells(t, b.s, b.m.next())
	default:
		adds(t, b.s, b.m.add(at), at)
	}
	counts(t, b.s, len(b.m.look), len(b.m.rest))
}

// drains: all that there is is told, on both sides.
func (b both) drains(t *testing.T) {
	t.Helper()
	for range 2 {
		for len(b.m.look) > 0 {
			b.does(t, 1, 0)
		}
		b.does(t, 1, 0)
		b.does(t, 0, 0)
	}
}

// Every row of six calls on small sets, the places on both sides of a card's edge.
func TestEverySmallRow(t *testing.T) {
	const calls, kinds = 6, 6
	rows := 1
	for range calls {
		rows *= kinds
	}
	for room := range 3 {
		for row := range rows {
			b, n := bothOf(10, 3, 2, room), row
			for range calls {
				b.does(t, n%kinds, 8+n%kinds)
				n /= kinds
			}
			b.drains(t)
		}
	}
}

// Every place of every small set, and those around it, forth and back.
func TestEverySmallSet(t *testing.T) {
	for words := range 8 {
		for card := 1; card < 10; card++ {
			for room := range 5 {
				b := bothOf(3, words, card, room)
				for at := -2; at < words+14; at++ {
					b.does(t, 2, at)
				}
				b.does(t, 0, 0)
				for at := words + 14; at > -2; at-- {
					b.does(t, 2, at)
				}
				b.drains(t)
			}
		}
	}
}

// FuzzRow goes through a row of calls, two bytes each, and holds each one against the model.
func FuzzRow(f *testing.F) {
	f.Add(uint8(200), uint8(40), uint8(7), uint8(2), []byte{2, 10, 2, 5, 2, 39, 2, 1, 2, 6, 2, 40, 2, 255, 0, 0, 2, 20, 1, 0, 1, 0, 1, 0, 0, 0, 1, 0, 1, 0, 0, 0})
	f.Add(uint8(0), uint8(0), uint8(0), uint8(0), []byte{2, 0, 0, 0, 1, 0, 0, 0})
	f.Add(uint8(3), uint8(60), uint8(0), uint8(0), []byte{2, 59, 2, 0, 2, 60, 2, 59, 0, 0, 1, 0, 2, 0, 1, 0, 0, 0, 1, 0})
	f.Add(uint8(9), uint8(5), uint8(30), uint8(1), []byte{2, 4, 2, 4, 2, 5, 0, 0, 2, 1, 2, 2, 1, 0, 1, 0, 1, 0})
	f.Fuzz(func(t *testing.T, from, words, card, room uint8, row []byte) {
		b := bothOf(int(from), int(words%64), 1+int(card%40), int(room%8))
		for row = row[:min(len(row), 400)]; len(row) >= 2; row = row[2:] {
			b.does(t, int(row[0]%5), int(from)+int(int8(row[1])))
		}
		b.drains(t)
	})
}
