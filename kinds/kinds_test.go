package kinds

import (
	"fmt"
	"math/rand"
	"testing"

	"weir/api"
	"weir/rules"
	"weir/sets"
)

func find(t *testing.T, text string, mode int) []Kind {
	t.Helper()
	told, e, number := rules.Read(text)
	if e != api.OK {
		t.Fatalf("Read(%q): %d, %d", text, e, number)
	}
	all, few := sets.Find(told, mode)
	if !few {
		t.Fatalf("%q has too many sets", text)
	}
	return Find(told.Lines, all)
}

// TestNumbers: of texts, how many kinds mode a has, Lost among them.
func TestNumbers(t *testing.T) {
	for _, c := range []struct {
		text string
		want int
	}{
		{"b x e", 1}, {"a [^\x00-\xff] e", 1}, {"a x[^\x00-\xff] e", 1}, {"a [^\x00-\xff]x e\nb x e", 1},
		{"a x e", 3}, {"a x|y e", 3}, {"a xy e", 4}, {"a xz|yz e", 4}, {"a xz e\na yz e", 6}, {"a x e\na y e", 4}, {"a x e\na x e", 3},
		{"a x+ e", 3}, {"a x*y e", 3}, {"a (x*y*)*z e", 3}, {"a (x|y)*xyy e", 5}, {"a (xy)+ e", 4},
		{"a x[^\x00-\xff]|y e", 3}, {"a x(y[^\x00-\xff])?z e", 4},
		{"a x e\na . e", 4}, {"a . e\na x e", 3}, {"a xx e\na x+ e", 5}, {"a x+ e\na xx e", 3},
		{"a x e\nb yyy e", 3}, {"b yyy e\na x e", 3}, {"a xxxxxxxxxxxxxxxxxxxxxxxxxxxxxxxxxxxxxxxx e", 42}, {"a .*a.... e", 33},
	} {
		if got := find(t, c.text, 0); len(got) != c.want {
			t.Errorf("%q: %d kinds, want %d", c.text, len(got), c.want)
		}
	}
}

// TestLost: the lost are the first, whatever comes behind them, and the empty word is the second.
func TestLost(t *testing.T) {
	for _, text := range []string{"b x e", "a x[^\x00-\xff] e", "a x e", "a x+y e\na y e", "a (x*y*)*z e"} {
		kinds := find(t, text, 0)
		if kinds[Lost].Rule != None || kinds[Lost].Longer != [256]int{} {
			t.Errorf("%q: lost words are %+v", text, kinds[Lost])
		}
		if len(kinds) > 1 && (kinds[1].Rule != None || kinds[1].Longer == [256]int{}) {
			t.Errorf("%q: the empty word is %+v", text, kinds[1])
		}
	}
}

// TestRules: the rule is the text's number of it, the first of the mode that matches.
func TestRules(t *testing.T) {
	text := "b x e\na y e\nb [xy] e\na [xy] e\na xx e\nb yy e"
	for _, c := range []struct {
		mode int
		word string
		want int
	}{
		{0, "x", 3}, {0, "y", 1}, {0, "xx", 4}, {0, "yy", None}, {0, "", None}, {0, "z", None},
		{1, "x", 0}, {1, "y", 2}, {1, "xx", None}, {1, "yy", 5}, {1, "yyy", None},
	} {
		kinds := find(t, text, c.mode)
		at := 1
		for i := range len(c.word) {
			at = kinds[at].Longer[c.word[i]]
		}
		if kinds[at].Rule != c.want {
			t.Errorf("mode %d: %q is matched by %d, want %d", c.mode, c.word, kinds[at].Rule, c.want)
		}
	}
}

// ends tells, of all words of at most n of the bytes that the patterns name, put behind a set's words, which rule is the
// first that matches.
func ends(text rules.Text, all []sets.Set, set int, n int) string {
	rule := None
	for number := len(text.Lines) - 1; number >= 0; number-- {
		for _, place := range all[set].Places {
			for _, last := range text.Lines[number].Pattern.Last {
				if place == last {
					rule = number
				}
			}
		}
	}
	out := fmt.Sprint(rule, " ")
	if n == 0 {
		return out
	}
	for _, b := range []byte("xyz") {
		out += ends(text, all, all[set].Longer[b], n-1)
	}
	return out
}

func pattern(chance *rand.Rand, depth int) string {
	if depth == 0 {
		return []string{"x", "y", "z", "[xy]", "[x-z]", "[^\x00-\xff]"}[chance.Intn(6)]
	}
	switch chance.Intn(6) {
	case 0, 1, 2:
		return pattern(chance, depth-1) + pattern(chance, depth-1)
	case 3, 4:
		return "(" + pattern(chance, depth-1) + "|" + pattern(chance, depth-1) + ")"
	}
	return "(" + pattern(chance, depth-1) + ")" + "*+?"[chance.Intn(3):][:1]
}

// TestAlike: two sets are of one kind just if no word behind theirs makes a difference. (Fewer than eight sets are told
// apart by words of six bytes at most.)
func TestAlike(t *testing.T) {
	chance := rand.New(rand.NewSource(13))
	fewer := 0
	for done := 0; done < 500; {
		source := "a " + pattern(chance, 3) + " e\na " + pattern(chance, 2) + " e"
		text, e, _ := rules.Read(source)
		if e != api.OK {
			continue
		}
		all, few := sets.Find(text, 0)
		if !few || len(all) > 7 {
			continue
		}
		done++
		kinds, known := Find(text.Lines, all), map[string]int{}
		// Of each set, which kind it is, is found by a walk through both at once.
		of, walk := map[int]int{sets.Lost: Lost, sets.Begin: min(1, len(kinds)-1)}, []int{sets.Begin}
		for at := 0; at < len(walk); at++ {
			for b, longer := range all[walk[at]].Longer {
				kind := kinds[of[walk[at]]].Longer[b]
				if was, seen := of[longer]; seen && was != kind {
					t.Fatalf("%q: set %d is of the kinds %d and %d", source, longer, was, kind)
				} else if !seen {
					of[longer] = kind
					walk = append(walk, longer)
				}
			}
		}
		for set := range all {
			told := ends(text, all, set, 6)
			if kind, seen := known[told]; seen && kind != of[set] {
				t.Fatalf("%q: set %d is of kind %d, want %d", source, set, of[set], kind)
			}
			known[told] = of[set]
		}
		if len(known) != len(kinds) {
			t.Fatalf("%q: %d kinds, want %d", source, len(kinds), len(known))
		}
		if len(kinds) < len(all) {
			fewer++
		}
	}
	if fewer < 50 {
		t.Errorf("the patterns are too tame: %d with sets that are alike", fewer)
	}
}
