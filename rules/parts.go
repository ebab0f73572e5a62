package rules

import "weir/lists"

// Bytes tells, of each byte, whether it is one of them.
type Bytes [256]bool

// Place is an atom that takes one byte.
type Place struct {
	Takes Bytes
	Next  []int // the places that can take the byte behind its own, upwards
}

// Part is a pattern or a piece of one: whether it matches the empty word, and the places
// (upwards) that can take the first and the last byte of a word that it matches. More is
// not needed to join it with others; what happens inside stands in the places' Next.
type Part struct {
	Empty bool
	First []int
	Last  []int
}

// one makes a place, and the part that is this place alone.
func (r *reader) one(takes Bytes) Part {
	place := len(r.places)
	r.places = append(r.places, Place{Takes: takes})
	return Part{First: []int{place}, Last: []int{place}}
}

// lead notes that a byte taken at one of from can be followed by one taken at any of to.
// (A place's number comes from one alone, so the place is there.)
func (r *reader) lead(from []int, to []int) {
	for _, place := range from {
		r.places[place].Next = lists.Union(r.places[place].Next, to)
	}
}

// inTurn joins two parts, the one behind the other.
func (r *reader) inTurn(a Part, b Part) Part {
	r.lead(a.Last, b.First)
	whole := Part{Empty: a.Empty && b.Empty, First: a.First, Last: b.Last}
	if a.Empty {
		whole.First = lists.Union(a.First, b.First)
	}
	if b.Empty {
		whole.Last = lists.Union(a.Last, b.Last)
	}
	return whole
}

// repeated gives a part with a *, + or ? behind it.
func (r *reader) repeated(a Part, sign int) Part {
	if sign != '?' {
		r.lead(a.Last, a.First)
	}
	return Part{Empty: a.Empty || sign != '+', First: a.First, Last: a.Last}
}

// either joins two branches.
func either(a Part, b Part) Part {
	first := lists.Union(a.First, b.First)
	last := lists.Union(a.Last, b.Last)
	return Part{Empty: a.Empty || b.Empty, First: first, Last: last}
}
