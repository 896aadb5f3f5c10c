package buf

import "testing"

// model knows by number what was put, all of it, and how many of these went.
type model struct {
	room int
	put  map[int]int
	last int // how many were put
	gone int
}

func modelOf(room int) *model {
	return &model{room: room, put: map[int]int{}}
}

func (m *model) size() int {
	return m.last - m.gone
}

// puts: the model, and the buffer likewise.
func (m *model) puts(t *testing.T, b *Buffer, at int) {
	t.Helper()
	fits := m.size() < m.room
	if fits {
		m.put[m.last] = at
		m.last++
	}
	puts(t, b, fits, at)
}

func (m *model) takes(t *testing.T, b *Buffer) {
	t.Helper()
	if m.size() == 0 {
		takesNone(t, b)
		return
	}
	takes(t, b, m.put[m.gone])
	m.gone++
}

// same: what stands in the buffer is what the model knows.
func (m *model) same(t *testing.T, b *Buffer) {
	t.Helper()
	var list []int
	for n := m.gone; n < m.last; n++ {
		list = append(list, m.put[n])
	}
	stand(t, b, list...)
}

// Every row of twelve calls, of every small room.
func TestEverySmallRow(t *testing.T) {
	const calls = 12
	for room := range 6 {
		for row := range 1 << calls {
			b, m := New(room), modelOf(room)
			for n := range calls {
				if row>>n&1 == 0 {
					m.puts(t, b, n)
				} else {
					m.takes(t, b)
				}
				m.same(t, b)
			}
		}
	}
}

// FuzzRow goes through a row of calls, a byte each, and holds each one against the model.
func FuzzRow(f *testing.F) {
	f.Add(uint8(3), []byte{0, 2, 4, 6, 1, 8, 10, 1, 1, 1, 1})
	f.Add(uint8(0), []byte{0, 1, 2})
	f.Add(uint8(1), []byte{0, 1, 1, 0, 2, 1, 254, 255})
	f.Add(uint8(200), []byte{200, 202, 204, 1, 1, 206, 1, 1, 1})
	f.Fuzz(func(t *testing.T, room uint8, row []byte) {
		b, m := New(int(room)), modelOf(int(room))
		for _, c := range row[:min(len(row), 600)] {
			if c%2 == 0 {
				m.puts(t, b, int(int8(c)))
			} else {
				m.takes(t, b)
			}
			m.same(t, b)
		}
	})
}
