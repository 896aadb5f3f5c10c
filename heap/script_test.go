package heap

import (
	"math"
	"math/rand/v2"
	"testing"

	"tilth/api"
	"tilth/conf"
)

// limit: how many words an entry asks for at most; of idle work and forced cycles nothing is said.
func limit(c api.Config, x api.Step) int {
	switch {
	case x.Kind == api.StepIdle || x.Kind == api.StepForce:
		return math.MaxInt
	case x.Kind != api.StepMake:
		return 4*c.Largest + 40
	case x.B < 0 || x.C < 0 || x.B > c.Largest || x.C > c.Largest || x.B+x.C > c.Largest:
		return conf.Most(c, c.Largest)
	}
	return conf.Most(c, x.B+x.C)
}

// do: an entry on both sides: the answers are the same, but for what has no room, and it asks for no more words than
// it may.
func (p pair) do(t *testing.T, x api.Step) {
	t.Helper()
	h, was := p.h, p.h.Core().Table.All()
	before := h.Work()
	got := h.Do(x)
	if n, most := h.Work()-before, limit(h.Core().C, x); n < 0 || n > most {
		t.Fatalf("%+v asks for %d words, above %d", x, n, most)
	}
	if x.Kind == api.StepMake && got.E == api.ErrRoom {
		p.refused(t, x, got, was)
		return
	}
	want := p.m.do(x)
	if x.Kind == api.StepIdle || x.Kind == api.StepForce {
		got = api.Answer{E: got.E}
	}
	if got != want {
		t.Fatalf("%+v: %+v, not %+v", x, got, want)
	}
}

// refused: an entry without room tells nothing else, is one that might have been, and leaves the handle's object where it is now.
func (p pair) refused(t *testing.T, x api.Step, got api.Answer, was []int) {
	t.Helper()
	same(t, "an answer without room", got, api.Answer{E: api.ErrRoom})
	m := &model{held: make([]*node, len(p.m.held)), largest: p.m.largest}
	same(t, "might it have been", m.makes(x.A, x.B, x.C), api.Answer{})
	same(t, "is something held still", holds(t, p.h, x.A) == 0, was[x.A] == 0)
	c := p.h.Core()
	room := c.Young.Room()
	if c.Moving {
		room -= c.Young.Left() - c.Copied
	}
	same(t, "is there room", x.B+x.C+api.Extra <= room, false)
}

// scripted is a heap of one of many kinds, most of them tight.
func scripted(kind int) api.Config {
	x := plain()
	x.Tenure = 1 + kind%3
	x.Stack, x.Buffer, x.Card = 1+kind/3%2, kind/6%3, []int{1, 4, 16}[kind/18%3]
	x.Pages = []int{0, 1, 2, 5}[kind/54%4]
	x.Minor, x.Major = []int{0, 1, 3, 64}[kind/2%4], []int{0, 1, 4, 64}[kind/5%4]
	x.MinorAt, x.MajorAt = []int{0, 20, 30, 40}[kind/7%4], min(x.Pages, kind/11%4)
	if kind%13 == 0 {
		x.Nursery, x.MinorAt = 400, 300
	}
	return x
}

// entry: one of a script, of four bytes; most of them are of few handles and fields.
func entry(b []byte) api.Step {
	x := api.Step{Kind: int(b[0]) % 14, A: int(b[1]) % 7, B: int(b[2]) % 7, C: int(b[3]) % 5, V: uint64(b[1])<<56 | uint64(b[2])<<8 | uint64(b[3])}
	if b[0] >= 130 { // more of these
		x.Kind = []int{api.StepMake, api.StepSet, api.StepGet}[b[0]%3]
	}
	switch x.Kind {
	case api.StepMake:
		x.B %= 4
	case api.StepGet:
		x.C %= 3
	case api.StepSet, api.StepRead, api.StepWrite:
		x.B %= 3
	case api.StepIdle, api.StepForce:
		x.A, x.B = int(b[1])%5%3, int(b[2])
	}
	if b[1] >= 250 {
		x.A, x.B = far[int(b[2])%len(far)], far[int(b[3])%len(far)]
	} else if b[2] >= 250 {
		x.B, x.C = far[int(b[1])%len(far)], far[int(b[3])%len(far)]
	}
	return x
}

// settles: both cycles come to their ends; then a whole major one, and a whole minor one. What is there then is what is
// held, and there is room for what fits beside it.
func (p pair) settles(t *testing.T) {
	t.Helper()
	for _, a := range []int{0, 1} {
		p.do(t, api.Step{Kind: api.StepIdle, A: a, B: api.MaxWords})
	}
	p.agrees(t)
	h := p.h
	for _, a := range []int{1, 0} {
		_, old := p.agrees(t)
		forces(t, h, a)
		p.agrees(t)
		idles(t, h, a)
		p.agrees(t)
		if a == 1 {
			same(t, "what is old is held", h.Stats().Old, old)
		}
	}
	young, old := p.agrees(t)
	s := h.Stats()
	same(t, "what there is is held", [2]int{s.Young, s.Old}, [2]int{young, old})
	c := h.Core().C
	same(t, "Free", s.Free, c.Pages*c.Page-old)
	if fields := min(c.Largest, c.Nursery-young-api.Extra); fields >= 0 {
		x := api.Step{Kind: api.StepMake, A: 5, B: 1 % (fields + 1), C: max(fields-1, 0)}
		same(t, "is there room", h.Do(x), api.Answer{})
		p.m.do(x)
		p.agrees(t)
	}
}

// script: entries of four bytes on both sides.
func script(t *testing.T, kind int, list []byte) {
	t.Helper()
	c := scripted(kind)
	p := pair{fresh(t, c), models(c)}
	for n := 0; len(list) >= 4; list = list[4:] {
		p.do(t, entry(list))
		p.agrees(t)
		if n++; n%100 == 0 {
			p.settles(t)
		}
	}
	p.settles(t)
}

// Long scripts in heaps of every kind: the numbers are always the same.
func TestScripts(t *testing.T) {
	for kind := range 432 {
		r := rand.New(rand.NewPCG(uint64(kind), 17))
		list := make([]byte, 4*350)
		for i := range list {
			list[i] = byte(r.Uint32())
		}
		script(t, kind, list)
	}
}

// The same script has the same answers, and leaves the same words, each time.
func TestScriptsTwice(t *testing.T) {
	for kind := range 40 {
		a, b := fresh(t, scripted(kind)), fresh(t, scripted(kind))
		r := rand.New(rand.NewPCG(uint64(kind), 18))
		for range 300 {
			x := entry([]byte{byte(r.Uint32()), byte(r.Uint32()), byte(r.Uint32()), byte(r.Uint32())})
			same(t, "the answer", a.Do(x), b.Do(x))
			same(t, "Work", a.Work(), b.Work())
		}
		alike(t, "the core", see(a.Core()), see(b.Core()))
	}
}

// Where there is always room no tax, no bound and no size of cards, buffers and stacks changes an answer.
func TestWhenever(t *testing.T) {
	for seed := range 20 {
		r := rand.New(rand.NewPCG(uint64(seed), 19))
		var list []api.Step
		for range 600 {
			list = append(list, entry([]byte{byte(r.Uint32()), byte(r.Uint32()), byte(r.Uint32()), byte(r.Uint32())}))
		}
		var want []api.Answer
		for kind := range 48 {
			c := scripted(kind * 9)
			c.Nursery, c.MinorAt = 4096, []int{0, 50, 200, 4096}[kind%4]
			h := fresh(t, c)
			for i, x := range list {
				got := h.Do(x)
				if x.Kind == api.StepIdle || x.Kind == api.StepForce {
					got = api.Answer{E: got.E}
				}
				if kind == 0 {
					want = append(want, got)
				}
				same(t, "the answer", got, want[i])
			}
		}
	}
}

// FuzzScript goes through a script with both sides.
func FuzzScript(f *testing.F) {
	f.Add(0, []byte{1, 0, 1, 1, 1, 1, 1, 1, 3, 0, 0, 1, 12, 0, 0, 0, 11, 0, 5, 0, 2, 2, 0, 0, 12, 1, 0, 0, 11, 1, 9, 0, 6, 0, 0, 0})
	f.Add(431, []byte{1, 5, 2, 2, 5, 5, 0, 7, 7, 1, 5, 0, 8, 1, 5, 0, 9, 1, 0, 0, 10, 1, 0, 0, 4, 1, 0, 0, 13, 0, 0, 0, 0, 0, 0, 0})
	f.Fuzz(func(t *testing.T, kind int, list []byte) {
		script(t, int(uint(kind)%432), list[:min(len(list), 4000)])
	})
}
