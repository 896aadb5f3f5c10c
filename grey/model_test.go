package grey

import "testing"

// model knows by number what stands there, and by name what was not taken in since it was last looked for.
type model struct {
	room int
	at   map[int]int
	size int
	gone map[int]int
}

func modelOf(room int) *model {
	return &model{room: room, at: map[int]int{}, gone: map[int]int{}}
}

func (m *model) push(at int) bool {
	if m.size == m.room {
		m.gone[at]++
		return false
	}
	m.at[m.size] = at
	m.size++
	return true
}

// pushes: the model, and the stack likewise.
func (m *model) pushes(t *testing.T, s *Stack, at int) {
	t.Helper()
	pushes(t, s, m.push(at), at)
}

func (m *model) pops(t *testing.T, s *Stack) {
	t.Helper()
	if m.size == 0 {
		popsNone(t, s)
		return
	}
	m.size--
	pops(t, s, m.at[m.size])
}

func (m *model) finds(s *Stack) {
	clear(m.gone)
	s.Found()
}

// puts: as many as asked for, one greater than the other.
func (m *model) puts(s *Stack, at, many int) {
	var list []int
	m.size = 0
	for n := range many {
		list = append(list, at+n)
		m.push(at + n)
	}
	s.Put(list)
}

// does: one call of each, with the same answer; which is a number from 0 to 5.
func (m *model) does(t *testing.T, s *Stack, which, at int) {
	t.Helper()
	switch which {
	case 0, 1:
		m.pushes(t, s, at)
	case 2:
		m.pops(t, s)
	case 3:
		m.finds(s)
	case 4:
		m.puts(s, at, m.room)
	case 5:
		m.puts(s, at, at&7)
	}
	m.same(t, s)
}

// same: what stands on the stack, and whether something is Lost, is what the model knows.
func (m *model) same(t *testing.T, s *Stack) {
	t.Helper()
	var list []int
	for n := range m.size {
		list = append(list, m.at[n])
	}
	stand(t, s, list...)
	lost(t, s, len(m.gone) > 0)
}

// Every row of six calls, of every small room.
func TestEverySmallRow(t *testing.T) {
	const calls, kinds = 6, 5
	rows := 1
	for range calls {
		rows *= kinds
	}
	for room := range 4 {
		for row := range rows {
			s, m, rest := New(room), modelOf(room), row
			for n := range calls {
				m.does(t, s, 1+rest%kinds, n)
				rest /= kinds
			}
		}
	}
}

// FuzzRow goes through a row of calls, two bytes each, and holds each one against the model.
func FuzzRow(f *testing.F) {
	f.Add(uint8(3), []byte{0, 7, 0, 4, 1, 9, 1, 5, 2, 0, 0, 8, 3, 0, 2, 0, 2, 0, 2, 0, 2, 0})
	f.Add(uint8(0), []byte{0, 1, 2, 0, 3, 0, 4, 6, 5, 8, 5, 9, 3, 0})
	f.Add(uint8(2), []byte{5, 3, 2, 0, 5, 2, 5, 0, 4, 200, 0, 1, 3, 0, 5, 1, 0, 250})
	f.Add(uint8(200), []byte{4, 0, 0, 1, 2, 0, 0, 2, 0, 3, 3, 0, 5, 7, 0, 255})
	f.Fuzz(func(t *testing.T, room uint8, row []byte) {
		s, m := New(int(room)), modelOf(int(room))
		for row = row[:min(len(row), 600)]; len(row) >= 2; row = row[2:] {
			m.does(t, s, int(row[0]%6), int(int8(row[1])))
		}
	})
}
