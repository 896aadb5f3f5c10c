package buf

// row is anything, in order, with room for so many.
type row[T any] struct {
	items []T
	most  int
}

func (r *row[T]) put(item T) bool {
	if len(r.items) >= r.most {
		return false
	}
	r.items = append(r.items, item)
	return true
}

func (r *row[T]) take() (T, bool) {
	if len(r.items) == 0 {
		var none T
		return none, false
	}
	first := r.items[0]
	r.items = r.items[1:]
	return first, true
}

func (r *row[T]) count() int {
	return len(r.items)
}

// all: the list is cut off with its room, so that what is appended finds none of the row's own memory and stands in new one.
func (r *row[T]) all() []T {
	return append(r.items[:0:0], r.items...)
}
