package rules

import (
	"math/rand"
	"reflect"
	"regexp"
	"strings"
	"testing"

	"weir/api"
)

// What is rules, told a second time: signs, classes and escapes become x, groups of x become x, till one
// expression tells all. (Bytes are laid out as runes, so that a byte above 127 is one letter to regexp.)
const (
	escapeForm = `\\[()\[\]*+?|.\\\-^ns]`
	signForm   = `(?:` + escapeForm + `|[^\]\\\- \n])`
	firstForm  = `(?:` + escapeForm + `|[^\]\\\- \n^])`
	rangeForm  = `(?:-` + signForm + `)?`
	itemsForm  = `(?:` + signForm + rangeForm + `)`
	classForm  = `\[(?:` + firstForm + rangeForm + itemsForm + `*|\^` + itemsForm + `+)\]`
	branchForm = `(?:x[*+?]*)+`
	wholeForm  = branchForm + `(?:\|` + branchForm + `)*`
)

var (
	lineExp  = regexp.MustCompile(`(?s)^[a-d] ([^ ]+) [es](?:[>+][a-d]|<)?$`)
	atomExp  = regexp.MustCompile(`(?s)^(?:` + escapeForm + `|` + classForm + `|\.|[^()\[\]*+?|.\\ \n])`)
	groupExp = regexp.MustCompile(`\(` + wholeForm + `\)`)
	wholeExp = regexp.MustCompile(`^` + wholeForm + `$`)
)

func isPattern(p string) bool {
	flat := ""
	for len(p) > 0 {
		atom := atomExp.FindString(p)
		switch {
		case atom != "":
			flat += "x"
			p = p[len(atom):]
		case strings.ContainsRune("()*+?|", rune(p[0])):
			flat += p[:1]
			p = p[1:]
		default:
			return false
		}
	}
	for {
		smaller := groupExp.ReplaceAllString(flat, "x")
		if smaller == flat {
			return wholeExp.MatchString(flat)
		}
		flat = smaller
	}
}

func isRules(text string) bool {
	runes := []rune{}
	for _, b := range []byte(text) {
		runes = append(runes, rune(b))
	}
	lines := strings.Split(string(runes), "\n")
	for _, line := range lines {
		parts := lineExp.FindStringSubmatch(line)
		if parts == nil || !isPattern(parts[1]) {
			return false
		}
	}
	return len(lines) <= 16
}

// begins tells whether some rules begin with the text: whether one of the ways to go on makes it rules.
func begins(text string) bool {
	for _, rest := range []string{"", "a x e", " x e", "x e", "e", "a"} {
		if isRules(text + rest) {
			return true
		}
	}
	line := text[strings.LastIndexByte(text, '\n')+1:]
	for n := 0; n <= strings.Count(line, "("); n++ {
		for _, rest := range []string{"", "x", "s", "]", "x]", "s]"} {
			if isRules(text + rest + strings.Repeat(")", n) + " e") {
				return true
			}
		}
	}
	return false
}

// compare holds Read against the model, for a text with whose beginning, but for its last byte, some rules begin.
// It tells whether some begin with the whole.
func compare(t *testing.T, text string) bool {
	t.Helper()
	viable, right := begins(text), isRules(text)
	if right && !viable {
		t.Fatalf("the model contradicts itself at %q", text)
	}
	place := len(text)
	if !viable {
		place--
	}
	_, e, at := Read(text)
	if (e == api.ErrSyntax) == right || e == api.ErrSyntax && at != place {
		t.Fatalf("Read(%q) = %d, %d, want rules: %v, place %d", text, e, at, right, place)
	}
	if !viable {
		for _, rest := range []string{"x e", ") e", "] e", " e", "\na x e"} {
			_, e, at := Read(text + rest)
			if e != api.ErrSyntax || at != place {
				t.Fatalf("Read(%q) = %d, %d, want place %d", text+rest, e, at, place)
			}
		}
	}
	return viable
}

func compareAll(t *testing.T, text string, more int) {
	for _, b := range []byte("ae ()[]^-\\*|.<+n\n") {
		longer := text + string(b)
		if compare(t, longer) && more > 1 {
			compareAll(t, longer, more-1)
		}
	}
}

func TestShortBeginnings(t *testing.T) {
	_, e, at := Read("")
	if e != api.ErrSyntax || at != 0 {
		t.Errorf("Read of nothing: %d, %d", e, at)
	}
	compareAll(t, "", 3)
	compareAll(t, "a ", 3)
	compareAll(t, "a [", 3)
	compareAll(t, "a [a", 3)
	compareAll(t, "a (a", 3)
	compareAll(t, "a a ", 3)
	compareAll(t, "b (a|[^b-c])* s>c\n", 3)
}

// TestLongBeginnings goes on with bytes by chance, as long as some rules begin so.
func TestLongBeginnings(t *testing.T) {
	chance := rand.New(rand.NewSource(10))
	// Bytes are as often in this list as it takes for all parts of the grammar to come.
	often := []byte("aaabbcdeeessx  ()))[]]^--\\*+?|.<>ns\n\x00\x80\xff")
	for range 200 {
		text := ""
		for range 100 {
			longer := text + string([]byte{often[chance.Intn(len(often))]})
			if compare(t, longer) {
				text = longer
			}
		}
	}
}

func TestManyLines(t *testing.T) {
	for n := 1; n <= 20; n++ {
		text := strings.Repeat("a b e\n", n)[:n*6-1]
		_, e, at := Read(text)
		if n <= 16 && e != api.OK || n > 16 && (e != api.ErrSyntax || at != 95) {
			t.Errorf("%d lines: %d, %d", n, e, at)
		}
	}
}

func TestLines(t *testing.T) {
	text, e, at := Read("b x e\na y s\nd z e<\na x s<\nb x e>c\nc x s>a\na x e+d\nd x s+b")
	if e != api.OK || at != 0 {
		t.Fatalf("Read: %d, %d", e, at)
	}
	want := []api.Rule{
		{Emit: 1}, {}, {Emit: 1, Act: api.Pop}, {Act: api.Pop},
		{Emit: 1, Act: api.Go, Mode: 2}, {Act: api.Go}, {Emit: 1, Act: api.Push, Mode: 3}, {Act: api.Push, Mode: 1},
	}
	modes := []int{1, 0, 3, 0, 1, 2, 0, 3}
	if len(text.Lines) != len(want) {
		t.Fatalf("%d lines, want %d", len(text.Lines), len(want))
	}
	for n, line := range text.Lines {
		if line.Rule != want[n] || line.Mode != modes[n] {
			t.Errorf("line %d: mode %d, %+v, want mode %d, %+v", n, line.Mode, line.Rule, modes[n], want[n])
		}
	}
}

func TestModes(t *testing.T) {
	for _, c := range []struct {
		text string
		want int
	}{
		{"a x e", 1}, {"b x e", 2}, {"c x e", 3}, {"d x e", 4},
		{"a x e>a", 1}, {"a x e>b", 2}, {"a x e+c", 3}, {"a x s+d", 4}, {"c x e>a", 3}, {"a x e<", 1},
		{"d x e\na x e", 4}, {"a x e\nb x e", 2}, {"a x e+d\nb x e>c", 4},
	} {
		if text, e, _ := Read(c.text); e != api.OK || text.Modes != c.want {
			t.Errorf("Read(%q): %d, %d modes, want %d", c.text, e, text.Modes, c.want)
		}
	}
}

// TestTakes: which bytes an atom takes, told as the text of them.
func TestTakes(t *testing.T) {
	all := make([]byte, 256)
	for b := range all {
		all[b] = byte(b)
	}
	but := func(without string) string {
		return strings.Join(strings.FieldsFunc(latin(string(all)), func(c rune) bool {
			return strings.ContainsRune(latin(without), c)
		}), "")
	}
	for _, c := range []struct{ atom, want string }{
		{"x", "x"}, {"\x00", "\x00"}, {"\xff", "\xff"}, {"^", "^"}, {"-", "-"}, {"\\n", "\n"}, {"\\s", " "}, {"\\-", "-"}, {"\\^", "^"},
		{"\\(", "("}, {"\\)", ")"}, {"\\[", "["}, {"\\]", "]"}, {"\\*", "*"}, {"\\+", "+"}, {"\\?", "?"}, {"\\|", "|"}, {"\\.", "."}, {"\\\\", "\\"},
		{"(x)", "x"}, {"[x]", "x"}, {"[xy]", "xy"}, {"[xyx]", "xy"}, {"[a-d]", "abcd"}, {"[a-a]", "a"}, {"[a-cx-z]", "abcxyz"}, {"[xa-c]", "abcx"},
		{"[a-cb-d]", "abcd"}, {"[\\n]", "\n"}, {"[\\s]", " "}, {"[\\]-\\^]", "]^"}, {"[\\--/]", "-./"}, {"[+-\\-]", "+,-"}, {"[a^]", "^a"}, {"[\\^a]", "^a"},
		{"[.]", "."}, {"[n]", "n"}, {"[[]", "["}, {"[|-\xff]", string(all['|':])}, {"[\x00-\x09]", string(all[:10])},
	} {
		takes(t, c.atom, latin(c.want))
	}
	takes(t, ".", but("\n"))
	takes(t, "[^x]", but("x"))
	takes(t, "[^\\n]", but("\n"))
	takes(t, "[^^]", but("^"))
	takes(t, "[^a-cb-dz]", but("abcdz"))
	takes(t, "[\x00-\xff]", but(""))
	takes(t, "[^\x00-\xff]", "")
}

// latin lays out each byte as a rune.
func latin(text string) string {
	runes := []rune{}
	for _, b := range []byte(text) {
		runes = append(runes, rune(b))
	}
	return string(runes)
}

func takes(t *testing.T, atom string, want string) {
	t.Helper()
	text, e, _ := Read("a " + atom + " e")
	if e != api.OK || len(text.Places) != 1 {
		t.Fatalf("Read of the atom %q: %d, %d places", atom, e, len(text.Places))
	}
	got := []rune{}
	for b, taken := range text.Places[0].Takes {
		if taken {
			got = append(got, rune(b))
		}
	}
	if string(got) != want {
		t.Errorf("%q takes %q, want %q", atom, string(got), want)
	}
}

// TestParts: a pattern's first and last places, and what can come behind each.
func TestParts(t *testing.T) {
	for _, c := range []struct {
		pattern     string
		first, last []int
		next        [][]int
	}{
		{"a", []int{0}, []int{0}, [][]int{nil}},
		{"ab", []int{0}, []int{1}, [][]int{{1}, nil}},
		{"a|b", []int{0, 1}, []int{0, 1}, [][]int{nil, nil}},
		{"a+", []int{0}, []int{0}, [][]int{{0}}},
		{"a?b", []int{0, 1}, []int{1}, [][]int{{1}, nil}},
		{"ab?", []int{0}, []int{0, 1}, [][]int{{1}, nil}},
		{"ab*c", []int{0}, []int{2}, [][]int{{1, 2}, {1, 2}, nil}},
		{"a(b|c)+d", []int{0}, []int{3}, [][]int{{1, 2}, {1, 2, 3}, {1, 2, 3}, nil}},
		{"a?b?c", []int{0, 1, 2}, []int{2}, [][]int{{1, 2}, {2}, nil}},
		{"(ab)+", []int{0}, []int{1}, [][]int{{1}, {0}}},
		{"(a*b*)*c", []int{0, 1, 2}, []int{2}, [][]int{{0, 1, 2}, {0, 1, 2}, nil}},
		{"(a?)+b", []int{0, 1}, []int{1}, [][]int{{0, 1}, nil}},
		{"ab|cd", []int{0, 2}, []int{1, 3}, [][]int{{1}, nil, {3}, nil}},
	} {
		text, e, _ := Read("a " + c.pattern + " e")
		if e != api.OK || len(text.Places) != len(c.next) {
			t.Errorf("Read of the pattern %q: %d, %d places", c.pattern, e, len(text.Places))
			continue
		}
		part := text.Lines[0].Pattern
		if part.Empty || !reflect.DeepEqual(part.First, c.first) || !reflect.DeepEqual(part.Last, c.last) {
			t.Errorf("%q: %+v, want first %v, last %v", c.pattern, part, c.first, c.last)
		}
		for n, place := range text.Places {
			if len(place.Next) != len(c.next[n]) || len(place.Next) > 0 && !reflect.DeepEqual(place.Next, c.next[n]) {
				t.Errorf("%q: behind %d come %v, want %v", c.pattern, n, place.Next, c.next[n])
			}
		}
	}
}
