package heap

import (
	"tilth/api"
	"tilth/major"
	"tilth/minor"
	"tilth/pacer"
)

// asks: what an entry of a kind asks for; nil, if there is no such kind.
func asks(kind int) func(*Heap, api.Step) api.Answer {
	switch kind {
	case api.StepMake:
		return (*Heap).create
	case api.StepGet:
		return (*Heap).get
	case api.StepSet:
		return (*Heap).set
	case api.StepRead:
		return (*Heap).read
	case api.StepWrite:
		return (*Heap).write
	case api.StepClear:
		return (*Heap).clear
	case api.StepCopy:
		return (*Heap).copy
	case api.StepSame:
		return (*Heap).same
	case api.StepNil:
		return (*Heap).empty
	case api.StepShape:
		return (*Heap).shape
	case api.StepIdle:
		return (*Heap).idle
	case api.StepForce:
		return (*Heap).force
	}
	return nil
}

// create: a new object. The tax is not handed back, if there is no such handle, or no room.
func (h *Heap) create(x api.Step) api.Answer {
	if h.fits(x.B, x.C) {
		h.begin()
		h.tax(x.B + x.C + api.Extra)
	}
	return api.Answer{E: h.core.Make(x.A, x.B, x.C)}
}

// fits: may an object have so many references and scalars?
func (h *Heap) fits(ptrs, scalars int) bool {
	return ptrs >= 0 && scalars >= 0 && ptrs <= h.core.C.Largest-scalars // not their sum, which may wrap round
}

// begin: the cycles that are due. No cycle begins amid one of its kind.
func (h *Heap) begin() {
	c := h.core
	if pacer.Minor(c.C, c.Young.Used()) {
		minor.Start(c)
	}
	if pacer.Major(c.C, c.Old.Free()) {
		major.Start(c)
	}
}

// tax: both cycles' work for so many words.
func (h *Heap) tax(words int) {
	c := h.core
	minor.Run(c, pacer.Quantum(words, c.C.Minor))
	major.Run(c, pacer.Quantum(words, c.C.Major))
}

func (h *Heap) get(x api.Step) api.Answer {
	return api.Answer{E: h.core.Get(x.A, x.B, x.C)}
}

func (h *Heap) set(x api.Step) api.Answer {
	return api.Answer{E: h.core.Set(x.A, x.B, x.C)}
}

func (h *Heap) read(x api.Step) api.Answer {
	w, e := h.core.Read(x.A, x.B)
	return api.Answer{E: e, V: w}
}

func (h *Heap) write(x api.Step) api.Answer {
	return api.Answer{E: h.core.Write(x.A, x.B, x.V)}
}

func (h *Heap) clear(x api.Step) api.Answer {
	return api.Answer{E: h.core.Clear(x.A)}
}

func (h *Heap) copy(x api.Step) api.Answer {
	return api.Answer{E: h.core.Copy(x.A, x.B)}
}

func (h *Heap) same(x api.Step) api.Answer {
	yes, e := h.core.Same(x.A, x.B)
	return api.Answer{E: e, Yes: yes}
}

func (h *Heap) empty(x api.Step) api.Answer {
	yes, e := h.core.Nil(x.A)
	return api.Answer{E: e, Yes: yes}
}

func (h *Heap) shape(x api.Step) api.Answer {
	ptrs, scalars, e := h.core.Shape(x.A)
	return api.Answer{E: e, N: ptrs, V: uint64(scalars)}
}

// idle: so much work of one of the cycles.
func (h *Heap) idle(x api.Step) api.Answer {
	work := min(max(x.B, 0), api.MaxWords)
	switch x.A {
	case 0:
		return api.Answer{N: minor.Run(h.core, work)}
	case 1:
		return api.Answer{N: major.Run(h.core, work)}
	}
	return api.Answer{E: api.ErrArg}
}

// force: one of the cycles begins, if it is not under way.
func (h *Heap) force(x api.Step) api.Answer {
	switch x.A {
	case 0:
		return api.Answer{Yes: minor.Start(h.core)}
	case 1:
		return api.Answer{Yes: major.Start(h.core)}
	}
	return api.Answer{E: api.ErrArg}
}
