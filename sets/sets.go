// Package sets finds the sets of a mode, and how one leads to another.
package sets

import (
	"weir/api"
	"weir/lists"
	"weir/rules"
)

// The numbers of two that are no sets as DOC.md counts them, but that lead and are led to like the others.
const (
	Lost  = 0 // the empty set: of words that no rule of the mode can take
	Begin = 1 // the empty word's, which stands for all that has not begun
	first = 2 // the first that is counted
)

// Set is a set of a mode.
type Set struct {
	Places []int    // upwards
	Longer [256]int // of each byte: which set a word of this set has, once the byte is put behind it
}

// finding is how far the search for a mode's sets has come.
type finding struct {
	places []rules.Place
	sets   []Set
}

// Find gives Lost, Begin and the sets of a mode of a text that rules.Read gave; false, if the
// sets are more than MaxSets.
func Find(text rules.Text, mode int) ([]Set, bool) {
	f := finding{places: text.Places, sets: make([]Set, first)}
	ready := begin(text.Lines, mode)
	f.lead(Begin, ready)
	// A word's set alone tells the sets of the words that are a byte longer.
	for at := first; at < len(f.sets) && f.few(); at++ {
		ready = f.behind(f.sets[at].Places)
		f.lead(at, ready)
	}
	if !f.few() {
		return nil, false
	}
	return f.sets, true
}

// few tells whether the sets are not too many.
func (f *finding) few() bool {
	return len(f.sets) <= first+api.MaxSets
}

// begin gives the places that can take the first byte of a word.
func begin(lines []rules.Line, mode int) []int {
	ready := []int{}
	for _, line := range lines {
		if line.Mode == mode {
			ready = lists.Union(ready, line.Pattern.First)
		}
	}
	return ready
}

// behind gives the places that can take the byte behind one that was taken at those of set.
func (f *finding) behind(set []int) []int {
	ready := []int{}
	for _, place := range set {
		ready = lists.Union(ready, f.places[place].Next)
	}
	return ready
}

// lead notes to which sets the set with the number from leads, those of ready being the
// places that can take the byte behind its words.
func (f *finding) lead(from int, ready []int) {
	for b := 0; b < 256; b++ {
		places := f.taking(ready, b)
		number := f.number(places)
		f.sets[from].Longer[b] = number
	}
}

// taking gives the places of ready that take the byte b.
func (f *finding) taking(ready []int, b int) []int {
	set := []int{}
	for _, place := range ready {
		if f.places[place].Takes[b] {
			set = append(set, place)
		}
	}
	return set
}

// number gives the number of the set with these places, which is added if it is not there.
// (Begin has no places either, but Lost comes ahead of it: nothing leads to Begin.)
func (f *finding) number(places []int) int {
	for number, known := range f.sets {
		if lists.Same(known.Places, places) {
			return number
		}
	}
	f.sets = append(f.sets, Set{Places: places})
	return len(f.sets) - 1
}
