// Package sets finds the sets of a mode.
package sets

import (
	"weir/api"
	"weir/lists"
	"weir/rules"
)

// finding is how far the search for a mode's sets has come.
type finding struct {
	places []rules.Place
	sets   [][]int
}

// Find gives the sets of a mode of a text that rules.Read gave, each as its places' numbers,
// upwards; false, if they are more than MaxSets.
func Find(text rules.Text, mode int) ([][]int, bool) {
	f := finding{places: text.Places}
	f.add(begin(text.Lines, mode))
	// A word's set alone tells the sets of the words that are a byte longer.
	for at := 0; at < len(f.sets) && len(f.sets) <= api.MaxSets; at++ {
		ready := f.behind(f.sets[at])
		f.add(ready)
	}
	if len(f.sets) > api.MaxSets {
		return nil, false
	}
	return f.sets, true
}

// begin gives the places that can take the first byte of a word.
func begin(lines []rules.Line, mode int) []int {
	ready := []int{}
	for _, line := range lines {
		if line.Mode == mode {
			ready = lists.Union(ready, line.Pattern.First)
		}
	}
	return ready
}

// behind gives the places that can take the byte behind one that was taken at those of set.
func (f *finding) behind(set []int) []int {
	ready := []int{}
	for _, place := range set {
		ready = lists.Union(ready, f.places[place].Next)
	}
	return ready
}

// add adds the sets of all bytes that can be taken at places of ready, but for those that are there.
func (f *finding) add(ready []int) {
	for b := 0; b < 256; b++ {
		set := f.taking(ready, b)
		if len(set) > 0 && !f.has(set) {
			f.sets = append(f.sets, set)
		}
	}
}

// taking gives the places of ready that take the byte b.
func (f *finding) taking(ready []int, b int) []int {
	set := []int{}
	for _, place := range ready {
		if f.places[place].Takes[b] {
			set = append(set, place)
		}
	}
	return set
}

func (f *finding) has(set []int) bool {
	for _, known := range f.sets {
		if lists.Same(known, set) {
			return true
		}
	}
	return false
}
