package sets

import (
	"fmt"
	"math/rand"
	"sort"
	"strings"
	"testing"

	"weir/api"
	"weir/rules"
)

// A pattern as a tree, the model of what it matches: kind 'p' is a place, 's' kids one behind the other, 'b' branches,
// and '*', '+', '?' stand behind their one kid.
type tree struct {
	kind  byte
	kids  []*tree
	text  string // a place's
	takes string // the letters of the alphabet that a place takes
	place int
}

// A byte of each kind that the atoms tell apart.
const alphabet = "abcd(!\x00\n \xff"

var atoms = []tree{
	{text: "a", takes: "a"}, {text: "b", takes: "b"}, {text: "a", takes: "a"}, {text: "b", takes: "b"}, {text: "c", takes: "c"},
	{text: ".", takes: "abcd(!\x00 \xff"}, {text: "\\n", takes: "\n"}, {text: "\\s", takes: " "}, {text: "\xff", takes: "\xff"}, {text: "\\(", takes: "("},
	{text: "[ab]", takes: "ab"}, {text: "[a-c]", takes: "abc"}, {text: "[^a]", takes: "bcd(!\x00\n \xff"}, {text: "[^b-z]", takes: "a(!\x00\n \xff"},
	{text: "[^\x00-\xff]", takes: ""}, {text: "[\\n-a]", takes: "a(!\n "},
}

// grow makes a pattern by chance. Its places are numbered from *places on, in the order of the text.
func grow(chance *rand.Rand, depth int, places *int) *tree {
	kind := "ppssb*+?"[chance.Intn(8)]
	if depth == 0 {
		kind = 'p'
	}
	switch kind {
	case 'p':
		atom := atoms[chance.Intn(len(atoms))]
		atom.kind = 'p'
		atom.place = *places
		*places++
		return &atom
	case 's', 'b':
		node := &tree{kind: kind}
		for range 1 + chance.Intn(3) {
			node.kids = append(node.kids, grow(chance, depth-1, places))
		}
		return node
	}
	return &tree{kind: kind, kids: []*tree{grow(chance, depth-1, places)}}
}

func (n *tree) write() string {
	parts := []string{}
	for _, kid := range n.kids {
		part := kid.write()
		if kid.kind == 'b' && n.kind != 'b' || kid.kind == 's' && n.kind != 's' && n.kind != 'b' {
			part = "(" + part + ")"
		}
		parts = append(parts, part)
	}
	switch n.kind {
	case 'p':
		return n.text
	case 's':
		return strings.Join(parts, "")
	case 'b':
		return strings.Join(parts, "|")
	}
	return parts[0] + string(n.kind)
}

// ends tells where a match of a piece of the word can end that begins at one of from. It notes the places at which
// the word's last byte is taken.
func (n *tree) ends(word string, from []bool, last map[int]bool) []bool {
	to := make([]bool, len(from))
	switch n.kind {
	case 'p':
		for i := range len(word) {
			if from[i] && strings.IndexByte(n.takes, word[i]) >= 0 {
				to[i+1] = true
				if i == len(word)-1 {
					last[n.place] = true
				}
			}
		}
	case 's':
		to = from
		for _, kid := range n.kids {
			to = kid.ends(word, to, last)
		}
	case 'b':
		for _, kid := range n.kids {
			to = either(to, kid.ends(word, from, last))
		}
	case '?':
		to = either(from, n.kids[0].ends(word, from, last))
	case '+':
		to = many(n.kids[0], word, n.kids[0].ends(word, from, last), last)
	case '*':
		to = many(n.kids[0], word, from, last)
	}
	return to
}

func many(n *tree, word string, from []bool, last map[int]bool) []bool {
	for range len(word) + 1 {
		from = either(from, n.ends(word, from, last))
	}
	return from
}

func either(a []bool, b []bool) []bool {
	both := make([]bool, len(a))
	for i := range both {
		both[i] = a[i] || b[i]
	}
	return both
}

// setOf is the set of a word, as text.
func setOf(patterns []*tree, word string) string {
	last := map[int]bool{}
	from := make([]bool, len(word)+1)
	from[0] = true
	for _, pattern := range patterns {
		pattern.ends(word, from, last)
	}
	return written(last)
}

func written(set map[int]bool) string {
	places := []int{}
	for place := range set {
		places = append(places, place)
	}
	sort.Ints(places)
	return fmt.Sprint(places)
}

// model lists the sets, or the first of them if they are too many.
func model(patterns []*tree) []string {
	sets, words := []string{}, []string{""}
	known := map[string]bool{"[]": true}
	for len(words) > 0 && len(sets) <= api.MaxSets {
		word := words[0]
		words = words[1:]
		for i := range len(alphabet) {
			longer := word + alphabet[i:i+1]
			set := setOf(patterns, longer)
			if !known[set] {
				known[set] = true
				sets = append(sets, set)
				words = append(words, longer)
			}
		}
	}
	sort.Strings(sets)
	return sets
}

// found lists the sets that are counted.
func found(sets []Set) []string {
	texts := []string{}
	for number, set := range sets {
		if number != Lost && number != Begin {
			texts = append(texts, fmt.Sprint(set.Places))
		}
	}
	sort.Strings(texts)
	return texts
}

// TestAnyPatterns: of patterns by chance, in two modes, the sets are the model's, and so is the first rule that
// matches the empty word.
func TestAnyPatterns(t *testing.T) {
	chance := rand.New(rand.NewSource(10))
	most, tooMany := 0, 0
	for range 20000 {
		places, lines, empty := 0, []string{}, -1
		patterns := [2][]*tree{}
		for n := range 1 + chance.Intn(3) {
			mode := chance.Intn(2)
			pattern := grow(chance, 4, &places)
			if empty < 0 && pattern.ends("", []bool{true}, nil)[0] {
				empty = n
			}
			patterns[mode] = append(patterns[mode], pattern)
			lines = append(lines, "ab"[mode:mode+1]+" "+pattern.write()+" e")
		}
		source := strings.Join(lines, "\n")
		text, e, at := rules.Read(source)
		if e == api.ErrEmpty && at == empty || e == api.ErrLong {
			continue
		}
		if e != api.OK || empty >= 0 {
			t.Fatalf("Read(%q): %d, %d, want the empty word in rule %d", source, e, at, empty)
		}
		for mode := range patterns {
			sets, few := Find(text, mode)
			want := model(patterns[mode])
			if few != (len(want) <= api.MaxSets) || few && fmt.Sprint(found(sets)) != fmt.Sprint(want) || !few && sets != nil {
				t.Fatalf("Find(%q, %d) = %v, %v, want %v", source, mode, found(sets), few, want)
			}
			most = max(most, len(sets)-2)
			if !few {
				tooMany++
				continue
			}
			for range 5 {
				walk(t, chance, sets, patterns[mode], source)
			}
		}
	}
	if most < 20 || tooMany < 10 {
		t.Errorf("the patterns are too tame: at most %d sets, %d times too many", most, tooMany)
	}
}

// walk goes from byte to byte, by chance, and asks at each whether the set is the word's.
func walk(t *testing.T, chance *rand.Rand, sets []Set, patterns []*tree, source string) {
	t.Helper()
	at, word := Begin, ""
	for range 8 {
		b := alphabet[chance.Intn(len(alphabet))]
		at = sets[at].Longer[b]
		word += string([]byte{b})
		want := setOf(patterns, word)
		if got := fmt.Sprint(sets[at].Places); got != want || at == Begin || (at == Lost) != (want == "[]") {
			t.Fatalf("%q: the set of %q is number %d, %s, want %s", source, word, at, got, want)
		}
	}
}

// TestLost: from the empty set all bytes lead to it; nothing leads to the beginning.
func TestLost(t *testing.T) {
	for _, source := range []string{"a a e", "b a e", "a [^\x00-\xff] e", "a a[^\x00-\xff] e"} {
		text, e, _ := rules.Read(source)
		if e != api.OK {
			t.Fatalf("Read(%q): %d", source, e)
		}
		sets, few := Find(text, 0)
		if !few || len(sets[Lost].Places) != 0 || len(sets[Begin].Places) != 0 || sets[Lost].Longer != [256]int{} {
			t.Errorf("%q: %v, %v", source, sets, few)
		}
		for number, set := range sets {
			for b, longer := range set.Longer {
				if longer == Begin {
					t.Errorf("%q: byte %d leads from set %d to the beginning", source, b, number)
				}
			}
		}
	}
}

func TestCounts(t *testing.T) {
	for _, c := range []struct {
		text string
		mode int
		want int // below 0: too many
	}{
		{"a (a|b)*a(a|b) e", 0, 4},
		{"a .*a.... e", 0, 32},
		{"a " + strings.Repeat("a", 40) + " e", 0, 40},
		{"a " + strings.Repeat("a", 41) + " e", 0, -1},
		{"b x e", 0, 0},
		{"b x e", 1, 1},
		{"a x e\na x e", 0, 1},
		{"a x e\na y e", 0, 2},
		{"a x e\nb y e", 0, 1},
		{"a (a|a|a|b) e", 0, 2},
		{"a [^\x00-\xff]abc e", 0, 0},
		{"a [^\x00-\xff]*abc e", 0, 3},
		{"a \x00|\xff e", 0, 2},
		{"a [\x00-\xff]|\x00|\xff e", 0, 3},
	} {
		text, e, _ := rules.Read(c.text)
		if e != api.OK {
			t.Fatalf("Read(%q): %d", c.text, e)
		}
		sets, few := Find(text, c.mode)
		if few != (c.want >= 0) || few && len(sets)-2 != c.want || !few && sets != nil {
			t.Errorf("Find(%q, %d): %d sets, %v, want %d", c.text, c.mode, len(sets)-2, few, c.want)
		}
	}
}
