// Package code lays instructions for kinds of words.
package code

import (
	"weir/api"
	"weir/kinds"
)

// writer lays instructions, one behind the other.
type writer struct {
	code []api.Ins
}

// Lay gives the entries and the code for modes whose words are of these kinds, each mode's
// as kinds.Find gives them.
// For at most MaxModes modes of at most MaxSets sets, they are at most MaxCode instructions:
// with the empty word's, 41 kinds of a mode have code, and each at most 256 In and three others.
func Lay(modes [][]kinds.Kind) ([]int, []api.Ins) {
	w := writer{}
	entries := make([]int, 0, len(modes))
	for _, mode := range modes {
		entries = append(entries, len(w.code))
		w.mode(mode)
	}
	return entries, w.code
}

// mode lays the code of a mode, the empty word's at its beginning. Lost has none of its own:
// where a byte leads to it, a Stop stands already. But a mode that knows no word is all lost.
func (w *writer) mode(all []kinds.Kind) {
	begin := len(w.code)
	if len(all) <= kinds.Lost+1 {
		w.lay(api.Ins{Op: api.Stop})
		return
	}
	starts := make([]int, len(all))
	for number := kinds.Lost + 1; number < len(all); number++ {
		starts[number] = len(w.code)
		w.kind(all[number])
	}
	w.link(begin, starts)
}

func (w *writer) lay(ins api.Ins) {
	w.code = append(w.code, ins)
}

// kind lays what is done behind a word of a kind. There is a Next only if the word can be
// gone on with: if there are ways on.
func (w *writer) kind(kind kinds.Kind) {
	if kind.Rule != kinds.None {
		w.lay(api.Ins{Op: api.Mark, A: kind.Rule})
	}
	ways := waysOn(kind.Longer)
	if len(ways) > 0 {
		w.lay(api.Ins{Op: api.Next})
	}
	for _, way := range ways {
		w.lay(way)
	}
	w.lay(api.Ins{Op: api.Stop})
}

// waysOn gives an In for each row of bytes that lead to one kind, but for Lost. The kind's
// number stands in its To, since the kind may have no code yet.
func waysOn(longer [256]int) []api.Ins {
	ways := []api.Ins{}
	low := 0
	for low < len(longer) {
		high := rowEnd(longer, low)
		if longer[low] != kinds.Lost {
			ways = append(ways, api.Ins{Op: api.In, A: low, B: high, To: longer[low]})
		}
		low = high + 1
	}
	return ways
}

// rowEnd gives the last byte of the row from low on that leads to one kind.
func rowEnd(longer [256]int, low int) int {
	high := low
	for high+1 < len(longer) && longer[high+1] == longer[low] {
		high++
	}
	return high
}

// link turns kinds into the instructions at which they start, in all that was laid from begin on.
func (w *writer) link(begin int, starts []int) {
	for at := begin; at < len(w.code); at++ {
		if w.code[at].Op == api.In {
			w.code[at].To = starts[w.code[at].To]
		}
	}
}
