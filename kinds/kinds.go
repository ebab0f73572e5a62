// Package kinds finds the kinds of words of a mode: words that are alike are of one kind.
package kinds

import (
	"weir/lists"
	"weir/rules"
	"weir/sets"
)

// None stands where no rule matches.
const None = -1

// Lost is the kind of the words that are lost: no rule matches them, nor a longer word that
// begins with them.
const Lost = 0

// Kind is a kind of words.
type Kind struct {
	Rule   int      // the first rule that matches them, or None
	Longer [256]int // of each byte: of which kind they are, once the byte is put behind them
}

// mode is what there is to tell words apart by. A word's set tells all of it: words with one
// set are alike.
type mode struct {
	sets  []sets.Set
	rules []int // of each set: the first rule that matches its words, or None
}

// sorting is a try to sort the sets by kinds.
type sorting struct {
	kinds  []int // of each set: its kind
	firsts []int // of each kind: its first set
}

// Find gives the kinds of a mode's words, out of the text's lines and what sets.Find gave of
// the mode. Lost is the first of them; the empty word's is the second, or Lost if there is no second.
func Find(lines []rules.Line, all []sets.Set) []Kind {
	m := mode{sets: all}
	for _, set := range all {
		m.rules = append(m.rules, firstRule(lines, set.Places))
	}
	sorted := m.sort()
	kinds := make([]Kind, 0, len(sorted.firsts))
	for _, set := range sorted.firsts {
		kind := Kind{Rule: m.rules[set]}
		for b, longer := range all[set].Longer {
			kind.Longer[b] = sorted.kinds[longer]
		}
		kinds = append(kinds, kind)
	}
	return kinds
}

// firstRule gives the first rule that matches the words whose set is places. (A rule of
// another mode has none of these places.)
func firstRule(lines []rules.Line, places []int) int {
	for number, line := range lines {
		if lists.Meet(line.Pattern.Last, places) {
			return number
		}
	}
	return None
}

// sort tells the sets apart, at first by no byte behind their words, then by one, and so on.
// It ends, for there are no more kinds than sets: sooner or later one byte more tells none apart.
func (m *mode) sort() sorting {
	sorted := sorting{kinds: make([]int, len(m.sets))}
	for {
		finer := m.finer(sorted.kinds)
		if len(finer.firsts) <= len(sorted.firsts) {
			return finer
		}
		sorted = finer
	}
}

// finer sorts the sets by their rules and by the kinds to which they lead.
func (m *mode) finer(kinds []int) sorting {
	finer := sorting{}
	for set := range m.sets {
		kind := m.kindOf(set, finer.firsts, kinds)
		if kind == len(finer.firsts) {
			finer.firsts = append(finer.firsts, set)
		}
		finer.kinds = append(finer.kinds, kind)
	}
	return finer
}

// kindOf gives the kind whose first set does as set does, or the number of a new one.
func (m *mode) kindOf(set int, firsts []int, kinds []int) int {
	for kind, other := range firsts {
		if m.rules[set] == m.rules[other] && m.leadAlike(set, other, kinds) {
			return kind
		}
	}
	return len(firsts)
}

// leadAlike tells whether every byte leads from both sets to the same kind.
func (m *mode) leadAlike(a int, b int, kinds []int) bool {
	for c, longer := range m.sets[a].Longer {
		if kinds[longer] != kinds[m.sets[b].Longer[c]] {
			return false
		}
	}
	return true
}
