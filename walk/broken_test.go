package walk

import (
	"math"
	"math/rand/v2"
	"testing"

	"tilth/api"
	"tilth/arena"
	"tilth/bump"
	"tilth/class"
	"tilth/core"
	"tilth/head"
	"tilth/mature"
	"tilth/obj"
	"tilth/table"
)

// scene is a core amid a minor cycle: something old, at 81, refers to 1, of which the object left for 41, which refers to
// one that stands at 8 still.
func scene(t *testing.T) *core.Core {
	t.Helper()
	h := fresh(t, plain())
	makes(t, h, 0, 1, 1)
	ages(t, h, 2)
	makes(t, h, 3, 2, 3)
	makes(t, h, 2, 1, 2)
	writes(t, h, 2, 0, headWord(t, api.Head{Size: 1, Ptrs: 1}))
	writes(t, h, 2, 1, 1)
	sets(t, h, 0, 0, 3)
	sets(t, h, 3, 1, 2)
	clears(t, h, 2)
	forces(t, h, 0)
	clears(t, h, 3)
	sound(t, h.Core())
	return h.Core()
}

// headWord: a head as a word.
func headWord(t *testing.T, h api.Head) uint64 {
	t.Helper()
	w, ok := head.Pack(h)
	is(t, "Pack", ok, true)
	return w
}

// sceneNodes is what a scene tells.
func sceneNodes(t *testing.T) []api.Node {
	t.Helper()
	return some(node([]int{2}, 0), node([]int{0, 3}, 0, 0, 0), node([]int{0}, headWord(t, api.Head{Size: 1, Ptrs: 1}), 1))
}

// sound: the scene is told as it is to be.
func sound(t *testing.T, c *core.Core) {
	t.Helper()
	shows(t, c, []int{1, 0, 0, 0, 0, 0}, sceneNodes(t)...)
	stands(t, c, 7+5, 4, 81, 41, 8)
}

// amid is places of a scene where no object begins: amid those that there are, one of them that of a scalar that is just
// like a head; those behind what is used, cells that are not in use, and places that are none.
func amid(t *testing.T, c *core.Core) []int {
	t.Helper()
	is(t, "a scalar's word", headOf(t, c, 11), api.Head{Size: 1, Ptrs: 1})
	return append([]int{2, 3, 7, 9, 10, 11, 12, 13, 40, 42, 43, 47, 48, 80, 82, 83, 84, 85, 86, 97, 113, 0}, far...)
}

func TestScene(t *testing.T) {
	c := scene(t)
	for at, to := range map[int]int{1: 41, 8: 8, 41: 41, 81: 81} {
		is(t, "Now", c.Now(at), to)
	}
	still(t, c)
}

// A handle that holds a place where no object begins holds nothing; the others hold what they did.
func TestHandlesAmid(t *testing.T) {
	c := scene(t)
	for _, at := range amid(t, c) {
		puts(t, c, 5, at)
		sound(t, c)
	}
	puts(t, c, 0, 11)
	shows(t, c, make([]int, 6))
	stands(t, c, 0, 0)
}

// So it is with references.
func TestReferencesAmid(t *testing.T) {
	c := scene(t)
	for _, at := range amid(t, c) {
		stores(t, c, 43, uint64(at)) // the first one of what stands at 41
		sound(t, c)
	}
	for _, at := range amid(t, c) {
		stores(t, c, 83, uint64(at)) // that of what is old
		shows(t, c, []int{1, 0, 0, 0, 0, 0}, node([]int{0}, 0))
		stands(t, c, 0, 4, 81)
	}
	for _, w := range []uint64{math.MaxUint64, 1 << 63, 1<<63 + 1, 1<<32 + 1, 1 << 44} {
		stores(t, c, 83, w)
		stands(t, c, 0, 4, 81)
	}
}

// An object that somebody sent to where none begins is where it was; one that was sent to another one is that. Of what
// is not to leave, the way does not count.
func TestWays(t *testing.T) {
	c := scene(t)
	for _, to := range amid(t, c) {
		for _, at := range []int{8, 41, 81} {
			stores(t, c, at+1, uint64(to))
			sound(t, c)
		}
	}
	for _, to := range append(amid(t, c), 1) {
		stores(t, c, 2, uint64(to))
		stands(t, c, 12, 4, 81, 1, 8)
		shows(t, c, []int{1, 0, 0, 0, 0, 0}, sceneNodes(t)...)
	}
	stores(t, c, 2, 41)
	stores(t, c, 9, 41)
	stands(t, c, 7, 4, 81, 41)
	shows(t, c, []int{1, 0, 0, 0, 0, 0}, node([]int{2}, 0), node([]int{0, 2}, 0, 0, 0))
}

// What was sent in circles is met where it was sent from the place that refers to it, and no further.
func TestWaysInCircles(t *testing.T) {
	h := fresh(t, plain())
	makes(t, h, 0, 2, 0) // 1
	makes(t, h, 1, 0, 1) // 5
	makes(t, h, 2, 0, 2) // 8
	sets(t, h, 0, 0, 1)
	sets(t, h, 0, 1, 2)
	clears(t, h, 1, 2)
	forces(t, h, 0)
	c := h.Core()
	stores(t, c, 6, 8)
	stores(t, c, 9, 5)
	stands(t, c, 11, 0, 41, 8, 5)
	shows(t, c, []int{1, 0, 0, 0, 0, 0}, node([]int{2, 3}), node(nil, 0, 0), node(nil, 0))
}

// An object whose head somebody broke is none; those beside it are.
func TestBrokenHeads(t *testing.T) {
	for _, w := range []uint64{0, 1, math.MaxUint64, 1 << 63, 1 << 43, 1<<44 + 1<<16, 1<<44 + 65} {
		c := scene(t)
		want := sceneNodes(t)
		puts(t, c, 4, 8)
		stores(t, c, 41, w) // then what left is where it was
		shows(t, c, []int{1, 0, 0, 0, 2, 0}, node([]int{3}, 0), want[2], node([]int{0, 2}, 0, 0, 0))
		stands(t, c, 12, 4, 81, 8, 1)
		stores(t, c, 1, w)
		shows(t, c, []int{1, 0, 0, 0, 2, 0}, node([]int{0}, 0), want[2])
		stands(t, c, 5, 4, 81, 8)
		stores(t, c, 81, w)
		shows(t, c, []int{0, 0, 0, 0, 1, 0}, want[2])
		stands(t, c, 5, 0, 8)
		stores(t, c, 8, w)
		shows(t, c, make([]int, 6))
	}
}

// A cell that was given back has no object any more, nor has a half that was emptied.
func TestWhatIsGivenBack(t *testing.T) {
	c := scene(t)
	puts(t, c, 4, 41)
	is(t, "Give", c.Old.Give(81), true)
	stands(t, c, 12, 0, 41, 8)
	is(t, "Drop", c.Young.Drop(), true)
	stands(t, c, 7, 0, 41)
	is(t, "Flip", c.Young.Flip(), true)
	stands(t, c, 7, 0, 41)
	is(t, "Drop", c.Young.Drop(), true)
	stands(t, c, 0, 0)
}

// What is young, and what is old, is told by where it stands, whatever its head says.
func TestOldByPlace(t *testing.T) {
	c := scene(t)
	for _, at := range []int{8, 41, 81} {
		h := headOf(t, c, at)
		h.Old = !h.Old
		is(t, "SetHead", obj.SetHead(c.Arena, at, h), api.OK)
	}
	sound(t, c)
}

// Of missing parts there is nothing; what the others have is told.
func TestMissingParts(t *testing.T) {
	c := scene(t)
	c.Rem, c.Grey, c.Row = nil, nil, nil
	sound(t, c)
	puts(t, c, 4, 41)
	old, young := c.Old, c.Young
	c.Old = nil
	want := sceneNodes(t)
	shows(t, c, []int{0, 0, 0, 0, 1, 0}, node([]int{0, 2}, want[1].Scalars...), want[2])
	stands(t, c, 12, 0, 41, 8)
	c.Old, c.Young = old, nil
	shows(t, c, []int{1, 0, 0, 0, 0, 0}, node([]int{0}, 0))
	stands(t, c, 0, 4, 81)
	c.Old = nil
	shows(t, c, make([]int, 6))
	c.Old, c.Young, c.Arena = old, young, nil
	shows(t, c, make([]int, 6))
	stands(t, c, 0, 0)
	c = scene(t)
	c.Table = nil
	shows(t, c, nil)
	stands(t, c, 0, 0)
}

func TestAllPartsMissing(t *testing.T) {
	for missing := range 1 << 6 {
		c := scene(t)
		for bit, lose := range []func(){
			func() { c.Arena = nil },
			func() { c.Young = nil },
			func() { c.Old = nil },
			func() { c.Rem = nil },
			func() { c.Grey = nil },
			func() { c.Table = nil },
		} {
			if missing>>bit&1 == 1 {
				lose()
			}
		}
		holdsTogether(t, c)
		holdsTogether(t, &core.Core{Arena: c.Arena, Young: c.Young, Old: c.Old, Table: c.Table})
	}
	holdsTogether(t, &core.Core{})
	holdsTogether(t, &core.Core{Moving: true, Phase: 7, Row: []int{1}, Look: math.MaxInt, Scan: math.MinInt})
}

// holdsTogether: whatever a core is, what all calls tell fits together.
func holdsTogether(t *testing.T, c *core.Core) {
	t.Helper()
	p := see(c)
	is(t, "handles", len(p.Handles), len(c.Table.All()))
	is(t, "places", len(p.Live), len(p.Nodes))
	reached := 0 // by those ahead
	meet := func(list []int) {
		for _, n := range list {
			if n < 0 || n > reached+1 {
				t.Fatalf("%d is met behind %d", n, reached)
			}
			reached = max(reached, n)
		}
	}
	meet(p.Handles)
	for i, x := range p.Nodes {
		if i >= reached {
			t.Fatalf("nothing comes to %d", i+1)
		}
		meet(x.Ptrs)
	}
	met := map[int]bool{0: true}
	for i, at := range p.Live {
		is(t, "is it met twice", met[at], false)
		met[at] = true
		h := headOf(t, c, at)
		is(t, "the shape", [2]int{h.Ptrs, h.Size}, [2]int{len(p.Nodes[i].Ptrs), len(p.Nodes[i].Ptrs) + len(p.Nodes[i].Scalars)})
	}
	alike(t, "what is told again", see(c), p)
}

// Fields that would stand behind the end of the arena are none, and 0.
func TestShortArena(t *testing.T) {
	for words := range 90 {
		c := &core.Core{C: plain(), Arena: arena.New(words), Young: bump.New(1, 40), Old: mature.New(81, 4, 16), Table: table.New(2)}
		c.Young.Take(40)
		c.Old.Take(8)
		puts(t, c, 0, 1)
		puts(t, c, 1, 81)
		w := headWord(t, api.Head{Size: 6, Ptrs: 3})
		var places []int
		for _, at := range []int{1, 81} {
			if at < words {
				stores(t, c, at, w)
				places = append(places, at)
			}
			if at+1 < words {
				stores(t, c, at+1, uint64(at))
			}
		}
		lists(t, "Live", Live(c), places...)
		holdsTogether(t, c)
		nodes, _ := Nodes(c)
		for _, x := range nodes {
			alike(t, "a node", node(x.Ptrs, x.Scalars...), node([]int{0, 0, 0}, 0, 0, 0))
		}
	}
}

// Whatever the configuration says by now, words are told.
func TestPages(t *testing.T) {
	for _, page := range far {
		c := scene(t)
		c.C = api.Config{Page: page}
		young, old := Words(c)
		is(t, "young", young, 12)
		is(t, "old", old, class.Cell(page, 4))
	}
}

// Halves and pages that others put in, at all places that may be, are gone through.
func TestOtherSpaces(t *testing.T) {
	for _, from := range far {
		for _, words := range []int{0, 1, 50, api.MaxWords} {
			c := scene(t)
			c.Young = bump.New(from, words)
			c.Young.Take(min(max(words, 1), 100))
			holdsTogether(t, c)
			c.Young.Flip()
			c.Young.Take(words)
			holdsTogether(t, c)
			c = scene(t)
			c.Old = mature.New(from, 64, words)
			for range 70 {
				c.Old.Take(words)
			}
			holdsTogether(t, c)
		}
	}
}

// A place that is 0 is none, also where an object begins there.
func TestPlaceOfNone(t *testing.T) {
	c := &core.Core{C: plain(), Arena: arena.New(20), Young: bump.New(0, 20), Table: table.New(3)}
	c.Young.Take(6)
	for _, at := range []int{0, 3} {
		is(t, "Make", obj.Make(c.Arena, at, api.Head{Size: 1, Ptrs: 1}), api.OK)
	}
	puts(t, c, 1, 3)
	shows(t, c, []int{0, 1, 0}, node([]int{0}))
	stands(t, c, 3, 0, 3)
}

// Whatever words stand in the arena, and whatever handles hold, every call ends, and what is told fits together.
func TestSpoiled(t *testing.T) {
	for seed := range 1000 {
		spoil(t, seed)
	}
}

// spoil: a core behind a script, of which some words and handles are others then.
func spoil(t *testing.T, seed int) {
	t.Helper()
	h := fresh(t, scripted(seed))
	for list := random(seed, 60); len(list) >= 4; list = list[4:] {
		h.Do(entry(list))
	}
	c := h.Core()
	r := rand.New(rand.NewPCG(uint64(seed), 91))
	for range 1 + r.IntN(40) {
		at := r.IntN(c.Arena.Len())
		switch r.IntN(6) {
		case 0:
			stores(t, c, at, r.Uint64())
		case 1:
			size := r.IntN(65)
			stores(t, c, at, headWord(t, api.Head{Size: size, Ptrs: r.IntN(size + 1), Parity: r.IntN(2), Old: r.IntN(2) == 0}))
		case 2:
			stores(t, c, at, uint64(r.IntN(c.Arena.Len()+9)))
		case 3:
			puts(t, c, r.IntN(6), at)
		case 4:
			puts(t, c, r.IntN(6), far[r.IntN(len(far))])
		case 5:
			others(c, r)
		}
		holdsTogether(t, c)
	}
}

// others: something else of a core is changed.
func others(c *core.Core, r *rand.Rand) {
	starts := c.Old.Starts(0, c.Arena.Len())
	switch r.IntN(6) {
	case 0:
		c.Moving = !c.Moving
	case 1:
		c.Phase = r.IntN(4)
	case 2:
		c.Young.Take(1 + r.IntN(9))
	case 3:
		c.Old.Take(1 + r.IntN(20))
	case 4:
		if c.Young.Left() == 0 {
			c.Young.Flip()
		}
	case 5:
		if len(starts) > 0 {
			c.Old.Give(starts[r.IntN(len(starts))])
		}
	}
}
