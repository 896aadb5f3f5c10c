// Package head is an object's first word.
package head

import "tilth/api"

// Where the numbers begin in the word, and which bits each one has.
const (
	ptrsAt   = 16
	ageAt    = 32
	sizeMask = 1<<16 - 1
	ptrsMask = 1<<16 - 1
	ageMask  = 1<<8 - 1
)

// The bits that stand alone, side by side from bit 40 on.
const (
	parityBit uint64 = 1 << (40 + iota)
	greyBit
	notedBit
	oldBit
	headBit // so that the word 0 is no head
)

// Good: may a head be?
func Good(h api.Head) bool {
	return within(h.Size, api.MaxFields) &&
		within(h.Ptrs, h.Size) &&
		within(h.Age, api.MaxAge) &&
		within(h.Parity, 1)
}

// Pack: a head as a word.
func Pack(h api.Head) (uint64, bool) {
	if !Good(h) {
		return 0, false
	}
	w := uint64(h.Size) | uint64(h.Ptrs)<<ptrsAt | uint64(h.Age)<<ageAt | headBit
	w |= flag(h.Parity == 1, parityBit)
	w |= flag(h.Grey, greyBit)
	w |= flag(h.Noted, notedBit)
	w |= flag(h.Old, oldBit)
	return w, true
}

// Unpack: the head of a word.
func Unpack(w uint64) (api.Head, bool) {
	h := split(w)
	// Packing again refuses at once all that no head has: numbers that may not be, bits that are always 0 or always 1.
	if again, ok := Pack(h); !ok || again != w {
		return api.Head{}, false
	}
	return h, true
}

func split(w uint64) api.Head {
	h := api.Head{
		Size:  int(w & sizeMask),
		Ptrs:  int(w >> ptrsAt & ptrsMask),
		Age:   int(w >> ageAt & ageMask),
		Grey:  w&greyBit != 0,
		Noted: w&notedBit != 0,
		Old:   w&oldBit != 0,
	}
	if w&parityBit != 0 {
		h.Parity = 1
	}
	return h
}

func within(n, most int) bool { return n >= 0 && n <= most }

func flag(set bool, bit uint64) uint64 {
	if set {
		return bit
	}
	return 0
}
