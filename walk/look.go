package walk

import (
	"tilth/api"
	"tilth/arena"
	"tilth/core"
	"tilth/obj"
)

// view is a core that was gone through.
type view struct {
	arena  *arena.Arena
	now    func(at int) int // where something is now
	heads  map[int]api.Head // of all objects that there are, by place
	order  []int            // where those are now that handles come to, as they were met
	number map[int]int      // theirs, by place
}

// look: meets all that handles come to.
func look(c *core.Core) *view {
	v := &view{arena: c.Arena, now: c.Now, heads: objects(c)}
	v.number = map[int]int{0: 0} // none is known ahead, so that it is not met
	meet := func(list []int) {
		for _, at := range list {
			at = v.place(at)
			if _, known := v.number[at]; !known {
				v.order = append(v.order, at)
				v.number[at] = len(v.order)
			}
		}
	}
	meet(c.Table.All())
	for i := 0; i < len(v.order); i++ { // order grows as it is gone through
		meet(v.references(v.order[i]))
	}
	return v
}

// objects: the heads of all that there are, by place. A scalar may be just like a head, so that it
// does not suffice to ask the words that something refers to.
func objects(c *core.Core) map[int]api.Head {
	heads := map[int]api.Head{}
	now, other := c.Young.Begin()
	gather(heads, c.Arena, now, c.Young.Used())
	gather(heads, c.Arena, other, c.Young.Left())
	for _, at := range c.Old.Starts(0, c.Arena.Len()) {
		if h, e := obj.Head(c.Arena, at); e == api.OK {
			heads[at] = h
		}
	}
	return heads
}

// gather: those of a half, which stand one behind the other. What is no head is passed by word by
// word, so that an object that somebody broke does not hide those behind it.
func gather(heads map[int]api.Head, a *arena.Arena, from, used int) {
	for at := from; at < from+used; {
		h, e := obj.Head(a, at)
		if e != api.OK {
			at++
			continue
		}
		heads[at] = h
		at += obj.Words(h)
	}
}

// place: where the object is now that begins at a place, 0 if there is none. One that somebody sent
// to where none begins is where it was.
func (v *view) place(at int) int {
	if _, ok := v.heads[at]; !ok {
		return 0
	}
	to := v.now(at)
	if _, ok := v.heads[to]; !ok {
		return at
	}
	return to
}

// references: where an object's references lead to, as its words say.
func (v *view) references(at int) []int {
	var list []int
	for n := range v.heads[at].Ptrs {
		list = append(list, int(v.field(at, n)))
	}
	return list
}

// scalars: those of an object.
func (v *view) scalars(at int) []uint64 {
	var list []uint64
	h := v.heads[at]
	for n := h.Ptrs; n < h.Size; n++ {
		list = append(list, v.field(at, n))
	}
	return list
}

// field: one of an object's fields; 0, where the arena ends ahead of it.
func (v *view) field(at, n int) uint64 {
	w, _ := obj.Field(v.arena, at, n)
	return w
}

// numbers: those of the objects at places.
func (v *view) numbers(places []int) []int {
	var list []int
	for _, at := range places {
		list = append(list, v.number[v.place(at)])
	}
	return list
}
