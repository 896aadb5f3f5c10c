package remset

import (
	"tilth/buf"
	"tilth/card"
)

// side is places one by one, and the cards of those that found no room among them.
type side struct {
	places *buf.Buffer
	cards  *card.Table
}

// maker: how an empty side is made.
func maker(from, words, size, most int) func() side {
	return func() side {
		return side{places: buf.New(most), cards: card.New(from, words, size)}
	}
}

func (d side) add(at int) {
	if !d.places.Put(at) {
		d.cards.Mark(at)
	}
}

func (d side) next() (from, to int, part, ok bool) {
	if at, ok := d.places.Take(); ok {
		return at, at + 1, false, true
	}
	first, ok := d.cards.First(0)
	if !ok {
		return 0, 0, false, false
	}
	d.cards.Clear(first)
	from, to = d.cards.Part(first)
	return from, to, true, true
}

func (d side) count() int {
	return d.places.Len() + d.cards.Count()
}
