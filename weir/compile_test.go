package weir_test

import (
	"fmt"
	"math/rand"
	"reflect"
	"strings"
	"testing"

	"weir/api"
	"weir/weir"
)

func compile(t *testing.T, text string) api.Program {
	t.Helper()
	image, e := weir.Compile(text)
	if e != api.OK {
		t.Fatalf("Compile(%q): %d", text, e)
	}
	p, e := weir.Unpack(image)
	if e != api.OK {
		t.Fatalf("Compile(%q) = %x, which Unpack calls %d", text, image, e)
	}
	return p
}

// of compiles rules and starts a scanner.
func of(t *testing.T, most, depth int, lines ...string) *weir.Scanner {
	t.Helper()
	return start(t, compile(t, strings.Join(lines, "\n")), most, depth)
}

func countNext(p api.Program) int {
	count := 0
	for _, ins := range p.Code {
		if ins.Op == api.Next {
			count++
		}
	}
	return count
}

// cuts gives the tokens of an input, as rules and bytes, the error and the offset at the end.
func cuts(t *testing.T, s *weir.Scanner, input string) (string, api.Errno, int) {
	t.Helper()
	tokens, e := s.Feed(input)
	if e == api.OK {
		more, ended := s.Finish()
		tokens = append(tokens, more...)
		e = ended
	}
	out := []string{}
	for _, token := range tokens {
		out = append(out, fmt.Sprint(token.Rule, ":", input[token.At:token.At+token.Len]))
	}
	return strings.Join(out, " "), e, s.State().At
}

// TestP11Errors: Compile answers Check's error, with no image.
func TestP11Errors(t *testing.T) {
	many := strings.Repeat("x", api.MaxSets+1)
	for _, c := range []struct {
		text string
		want api.Errno
	}{
		{strings.Repeat("x", api.MaxText+1), api.ErrLong},
		{"a " + strings.Repeat("x", api.MaxText-3) + " e", api.ErrLong},
		{"", api.ErrSyntax},
		{"a x", api.ErrSyntax},
		{"a x e\n", api.ErrSyntax},
		{"a (x e", api.ErrSyntax},
		{strings.Repeat("a x e\n", 16) + "a x e", api.ErrSyntax},
		{"a [z-a] e", api.ErrRange},
		{"a x e\nb [^z-a] s", api.ErrRange},
		{"a x* e", api.ErrEmpty},
		{"a x e\nb x? s", api.ErrEmpty},
		{"a " + many + " e", api.ErrStates},
		{"a x e\nd " + many + " e", api.ErrStates},
		{"a .*a..... e", api.ErrStates},
		// Of several, the first that is named.
		{"a " + many + " e\na x* e\na [z-a] e\nx", api.ErrSyntax},
		{"a " + many + " e\na x* e\na [z-a] e", api.ErrRange},
		{"a " + many + " e\na x* e", api.ErrEmpty},
	} {
		if image, e := weir.Compile(c.text); image != "" || e != c.want {
			t.Errorf("Compile(%.60q) = %x, %d, want %d", c.text, image, e, c.want)
		}
	}
}

// TestP11Program: the text's modes, and its rules in their order.
func TestP11Program(t *testing.T) {
	for _, c := range []struct {
		text  string
		modes int
		want  []api.Rule
	}{
		{"a x e", 1, []api.Rule{{Emit: 1}}},
		{"a x s", 1, []api.Rule{{}}},
		{"b x e", 2, []api.Rule{{Emit: 1}}},
		{"a x e+d", 4, []api.Rule{{Emit: 1, Act: api.Push, Mode: 3}}},
		{"a x s>c", 3, []api.Rule{{Act: api.Go, Mode: 2}}},
		{"a [^\x00-\xff] e<", 1, []api.Rule{{Emit: 1, Act: api.Pop}}},
		{"d x e\na x s<\nb x e>c\na y s+a\nd x e", 4, []api.Rule{{Emit: 1}, {Act: api.Pop}, {Emit: 1, Act: api.Go, Mode: 2}, {Act: api.Push}, {Emit: 1}}},
		{strings.Repeat("a x e\n", 15) + "a x e", 1, []api.Rule{
			{Emit: 1}, {Emit: 1}, {Emit: 1}, {Emit: 1}, {Emit: 1}, {Emit: 1}, {Emit: 1}, {Emit: 1},
			{Emit: 1}, {Emit: 1}, {Emit: 1}, {Emit: 1}, {Emit: 1}, {Emit: 1}, {Emit: 1}, {Emit: 1},
		}},
	} {
		p := compile(t, c.text)
		if len(p.Entries) != c.modes || !reflect.DeepEqual(p.Rules, c.want) {
			t.Errorf("Compile(%q): entries %v, rules %+v, want %d, %+v", c.text, p.Entries, p.Rules, c.modes, c.want)
		}
	}
}

// TestP11Same: the answer hangs on the text alone.
func TestP11Same(t *testing.T) {
	text := "a (a|b)*abb e+b\nb [^a-f]+ s<\nb a.? e"
	first, _ := weir.Compile(text)
	weir.Compile("a .*a.... e")
	weir.Compile("a (")
	if again, e := weir.Compile(text); again != first || e != api.OK {
		t.Errorf("Compile(%q) = %x, %d, and %x ahead of it", text, again, e, first)
	}
}

func TestP12Examples(t *testing.T) {
	s := of(t, 3, 0, "a x(a|b)*y e")
	feed(t, s, "xa", api.OK)
	if got := s.State(); got.Held != 2 {
		t.Errorf("State = %+v", got)
	}
	feed(t, s, "by", api.ErrToken)
	if got := s.State(); got.At != 0 || got.Held != 0 {
		t.Errorf("State = %+v", got)
	}
	s = of(t, 4, 0, "a x(a|b)*y e")
	feed(t, s, "xa", api.OK)
	feed(t, s, "by", api.OK, tok(0, 0, 4, 1, 1))

	for _, pieces := range [][]string{{"aab"}, {"a", "ab"}, {"aa", "b"}, {"a", "a", "b"}} {
		s = of(t, 64, 0, "a ab e", "a a s")
		tokens := []api.Token{}
		for _, piece := range pieces {
			some, e := s.Feed(piece)
			if e != api.OK {
				t.Errorf("Feed(%q): %d", piece, e)
			}
			tokens = append(tokens, some...)
		}
		finish(t, s, api.OK)
		told(t, "Feed", tokens, api.OK, api.OK, []api.Token{tok(0, 1, 2, 1, 2)})
	}
	s = of(t, 64, 0, "a ab e", "a a s")
	feed(t, s, "a", api.OK)
	if got := s.State(); got.Held != 1 || got.At != 0 {
		t.Errorf("State = %+v", got)
	}

	brackets := "a \\( e+b\nb [^()]+ s\nb \\( e+b\nb \\) e<"
	s = of(t, 64, 2, brackets)
	feed(t, s, "((x))", api.OK, tok(0, 0, 1, 1, 1), tok(2, 1, 1, 1, 2), tok(3, 3, 1, 1, 4), tok(3, 4, 1, 1, 5))
	s = of(t, 64, 1, brackets)
	feed(t, s, "((x))", api.ErrDeep, tok(0, 0, 1, 1, 1))
	if got := s.State(); got.At != 1 {
		t.Errorf("State = %+v", got)
	}
	s = of(t, 64, 2, brackets)
	feed(t, s, "())", api.ErrMatch, tok(0, 0, 1, 1, 1), tok(3, 1, 1, 1, 2))
	if got := s.State(); got.At != 2 {
		t.Errorf("State = %+v", got)
	}
}

func TestP12Cuts(t *testing.T) {
	for _, c := range []struct {
		lines       string
		most, depth int
		input       string
		want        string
		e           api.Errno
		at          int
	}{
		// As many bytes as most, and one more.
		{"a x+ e\na y e", 3, 0, "xxxyx", "", api.ErrToken, 0},
		{"a x+ e\na y e", 3, 0, "xxyxxx", "0:xx 1:y 0:xxx", api.OK, 6},
		{"a x+ e\na y e", 3, 0, "xxyxxxx", "0:xx 1:y", api.ErrToken, 3},
		{"a xxx e", 3, 0, "xxxxxx", "0:xxx 0:xxx", api.OK, 6},
		{"a xxx e", 2, 0, "xxx", "", api.ErrToken, 0},
		{"a xxx e", 2, 0, "xx", "", api.ErrMatch, 0},
		{"a x e\na xxx e", 2, 0, "xx", "0:x 0:x", api.OK, 2},
		{"a x e\na xxx e", 2, 0, "xxy", "", api.ErrToken, 0},
		{"a x e", 1, 0, "xx", "0:x 0:x", api.OK, 2},
		{"a x+y e", 64, 0, strings.Repeat("x", 63) + "y", "0:" + strings.Repeat("x", 63) + "y", api.OK, 64},
		{"a x+y e", 64, 0, strings.Repeat("x", 64) + "y", "", api.ErrToken, 0},
		// Of the rules that match the same bytes, the first.
		{"a if e\na [a-z]+ e", 9, 0, "ififif", "1:ififif", api.OK, 6},
		{"a if e\na [a-z]+ e\na . s", 9, 0, "if i iff if", "0:if 1:i 1:iff 0:if", api.OK, 11},
		{"a [a-z]+ e\na if e", 9, 0, "if", "0:if", api.OK, 2},
		{"a x e\na x e\na x s", 9, 0, "xx", "0:x 0:x", api.OK, 2},
		{"b x e\na x e", 9, 0, "x", "1:x", api.OK, 1},
		{"b x e\na x e>b\na x e", 9, 0, "xx", "1:x 0:x", api.OK, 2},
		// The longest of the beginnings that a rule matches, also far behind.
		{"a x e\na xy e\na xyz e", 9, 0, "xyzxyxx", "2:xyz 1:xy 0:x 0:x", api.OK, 7},
		{"a x e\na x(yz)+w e\na [yz] e", 9, 0, "xyzyzw", "1:xyzyzw", api.OK, 6},
		{"a x e\na x(yz)+w e\na [yz] e", 9, 0, "xyzyzx", "0:x 2:y 2:z 2:y 2:z 0:x", api.OK, 6},
		{"a xyzw e\na xy e\na x s\na . s", 9, 0, "xyzxyzw", "1:xy 0:xyzw", api.OK, 7},
		{"a ab|abab e", 9, 0, "ababab", "0:abab 0:ab", api.OK, 6},
		// Nothing is marked.
		{"a xy e", 9, 0, "x", "", api.ErrMatch, 0},
		{"a xy e", 9, 0, "xyxz", "0:xy", api.ErrMatch, 2},
		{"a xy e", 9, 0, "z", "", api.ErrMatch, 0},
		// No bytes; modes without rules, and rules without words.
		{"a x e", 9, 0, "", "", api.OK, 0},
		{"b x e", 9, 0, "", "", api.OK, 0},
		{"b x e", 9, 0, "x", "", api.ErrMatch, 0},
		{"a x e>d", 9, 0, "xx", "0:x", api.ErrMatch, 1},
		{"a x[^\x00-\xff] e", 9, 0, "x", "", api.ErrMatch, 0},
		{"a x[^\x00-\xff] e\na xy e", 9, 0, "xy", "1:xy", api.OK, 2},
		// As deep as depth, and one deeper; a pop too many.
		{"a x e+a", 9, 3, "xxx", "0:x 0:x 0:x", api.OK, 3},
		{"a x e+a", 9, 3, "xxxx", "0:x 0:x 0:x", api.ErrDeep, 3},
		{"a x e+a", 9, 0, "x", "", api.ErrDeep, 0},
		{"a x e+a", 9, 8, "xxxxxxxxx", "0:x 0:x 0:x 0:x 0:x 0:x 0:x 0:x", api.ErrDeep, 8},
		{"a x e+b\nb x e+c\nc x e+d\nd y e<\nc z e<\nb z e<", 9, 3, "xxxyzz", "0:x 1:x 2:x 3:y 4:z 5:z", api.OK, 6},
		{"a x e+b\nb y e<\na y e<", 9, 3, "xyy", "0:x 1:y", api.ErrPop, 2},
		// What is silent is cut all the same.
		{"a x s\na y e", 9, 0, "xxyx", "1:y", api.OK, 4},
		// Bytes of all kinds.
		{"a \x00 e\na \xff e\na [\x01-\xfe] e", 1, 0, "\x00\x01\xfe\xff", "0:\x00 2:\x01 2:\xfe 1:\xff", api.OK, 4},
		{"a . e", 1, 0, "\x00\xff \n", "0:\x00 0:\xff 0: ", api.ErrMatch, 3},
		{"a \\n\\s e\na \\\\\\^\\- e", 9, 0, "\n \\^-", "0:\n  1:\\^-", api.OK, 5},
	} {
		s := of(t, c.most, c.depth, c.lines)
		if got, e, at := cuts(t, s, c.input); got != c.want || e != c.e || at != c.at {
			t.Errorf("%q, most %d, depth %d, of %q: %q, %d at %d, want %q, %d at %d", c.lines, c.most, c.depth, c.input, got, e, at, c.want, c.e, c.at)
		}
	}
}

// TestP12Sure: it waits just as long as the bytes can be gone on with; a token is told, or an error, as soon as they can't.
func TestP12Sure(t *testing.T) {
	for _, c := range []struct {
		lines string
		waits string // all its beginnings can be gone on with
		last  string // with one of these bytes behind, it can't be gone on with
		e     api.Errno
	}{
		{"a xyz e", "xy", "z", api.OK},
		{"a xyz e", "xy", "xya\x00\xff\n", api.ErrMatch},
		{"a x+y e", "xxxx", "y", api.OK},
		{"a x+y e", "xxxx", "z", api.ErrMatch},
		{"a xy?z? e", "xy", "z", api.OK},
		{"a x e\na xyz e\na . s", "xy", "az", api.OK},
		{"a x e\na xx e\na xxx e", "xx", "x", api.OK},
		{"a x(y[^\x00-\xff]|z)w?[^\x00-\xff]* e", "xz", "w", api.OK},
		{"a x(y[^\x00-\xff]|z) e", "x", "z", api.OK},
		{"a x(y[^\x00-\xff]|z) e", "x", "y", api.ErrMatch},
		{"a [^\x00-\xff] e", "", "xyz", api.ErrMatch},
		{"b x e", "", "xyz", api.ErrMatch},
		{"a " + strings.Repeat("x", 40) + " e", strings.Repeat("x", 39), "x", api.OK},
	} {
		for i := range len(c.last) {
			s := of(t, api.MaxLook, 0, c.lines)
			for n := range len(c.waits) {
				tokens, e := s.Feed(c.waits[n : n+1])
				if got := s.State(); len(tokens) > 0 || e != api.OK || got.Held != n+1 {
					t.Fatalf("%q: behind %q: %v, %d, %+v", c.lines, c.waits[:n+1], tokens, e, got)
				}
			}
			tokens, e := s.Feed(c.last[i : i+1])
			if e != c.e || (len(tokens) > 0) != (e == api.OK) {
				t.Errorf("%q: behind %q and %q: %v, %d, want %d", c.lines, c.waits, c.last[i:i+1], tokens, e, c.e)
			}
		}
	}
}

func TestP13Counts(t *testing.T) {
	forty := strings.Repeat("x", 40)
	for _, c := range []struct {
		text string
		want int
	}{
		{"a x e", 1}, {"a xy e", 2}, {"a x|y|zw e", 2}, {"a xyz|xyw e", 3}, {"a . e\na x e\na [a-z] e", 1},
		// Words that are alike.
		{"a xz|yz e", 2}, {"a x(a|b|c)z|yaz|ybz|ycz e", 3}, {"a (xz|yz)+ e", 3}, {"a xw|yzw e", 3}, {"a (x|y)*xyy e", 4}, {"a (x*y*)*z e", 1},
		{"a x+ e", 2}, {"a xx* e\na xxx* e", 2}, {"a (x|xx|xxx)+ e", 2}, {"a x?x?x?x?z e", 5}, {"a xy*|xy*z?y* e", 3}, {"a (xy)+ e", 3}, {"a x+y+x+z e", 4},
		// Words that are not alike, since another rule matches what is behind them.
		{"a xz e\na yz e", 3}, {"a xz e\na yz s", 3}, {"a xz e\na xz|yz e", 3}, {"a xz|yz e\na xz e", 2}, {"a x e\na [xy]z e", 3}, {"a xx e\na x+ e", 4},
		// Words that can't be gone on with.
		{"a [^\x00-\xff] e", 0}, {"a x[^\x00-\xff] e", 0}, {"a x[^\x00-\xff]|y e", 1}, {"a x(y[^\x00-\xff])?z e", 2}, {"a xy[^\x00-\xff]*|xz e", 2},
		// Each mode has its own.
		{"b x e", 1}, {"a x e\nb x e", 2}, {"a xx e\nb xx e\nc xx e\nd xx e", 8}, {"a x e>d", 1}, {"a x e\nb [^\x00-\xff] e", 1},
		// As many sets as there may be.
		{"a .*a.... e", 32}, {"a " + forty + " e", 40}, {"a " + forty + " e\nb " + forty + " e\nc " + forty + " e\nd " + forty + " e", 160},
		{"a x(" + forty[:39] + ")+ e", 41}, {"a (" + forty + ")+ e", 41}, {"a " + forty[:39] + "x+ e", 41}, {"a x?" + forty[:39] + " e", 40},
	} {
		if got := countNext(compile(t, c.text)); got > c.want {
			t.Errorf("Compile(%q) has %d Next, want at most %d", c.text, got, c.want)
		}
	}
}

// follow does instructions from i on, c being the byte, up to a Next or behind a Stop: where the Next is, or -1,
// and what was marked last, or -1.
func follow(p api.Program, i int, c int) (int, int) {
	marked := -1
	for {
		ins := p.Code[i]
		i++
		switch {
		case ins.Op == api.Mark:
			marked = ins.A
		case ins.Op == api.Next:
			return i - 1, marked
		case ins.Op == api.Stop:
			return -1, marked
		case ins.Op == api.Jump || ins.A <= c && c <= ins.B:
			i = ins.To
		}
	}
}

// spot is a Next, and words behind which a scanner comes upon it.
type spot struct {
	next int
	w    *words
}

// verify holds a program against the model, of all words of a mode: behind each that it looks at it comes upon a
// Next just if the word can be gone on with, and has just marked the first rule that matches it.
func verify(t *testing.T, text string, p api.Program, r reading, mode int) {
	t.Helper()
	begin := r.modes[mode][0]
	at, _ := follow(p, p.Entries[mode], 0)
	if (at >= 0) != begin.goOn {
		t.Fatalf("%q, mode %d: a Next at %d, but it can be gone on: %v", text, mode, at, begin.goOn)
	}
	spots, known := []spot{}, map[spot]bool{}
	if at >= 0 {
		spots = append(spots, spot{at, begin})
	}
	for i := 0; i < len(spots); i++ {
		for c := range 256 {
			w := spots[i].w.longer[c]
			at, marked := follow(p, spots[i].next+1, c)
			if (at >= 0) != w.goOn || marked != w.rule {
				t.Fatalf("%q, mode %d, behind %d words, with the byte %d: a Next at %d, rule %d is marked; gone on: %v, rule %d", text, mode, i, c, at, marked, w.goOn, w.rule)
			}
			if more := (spot{at, w}); at >= 0 && !known[more] {
				known[more] = true
				spots = append(spots, more)
			}
		}
	}
}

// verifyText holds all that Compile makes of a right text against the model.
func verifyText(t *testing.T, text string) (api.Program, reading) {
	t.Helper()
	p, r := compile(t, text), readText(text)
	if len(p.Entries) != len(r.modes) || !reflect.DeepEqual(p.Rules, r.rules) {
		t.Fatalf("%q: entries %v, rules %v, want %d, %v", text, p.Entries, p.Rules, len(r.modes), r.rules)
	}
	kinds := 0
	for mode := range r.modes {
		verify(t, text, p, r, mode)
		kinds += countKinds(r.modes[mode])
	}
	if got := countNext(p); got > kinds {
		t.Fatalf("%q: %d Next, want at most %d", text, got, kinds)
	}
	return p, r
}

// verifyScan holds a scanner against the model, behind each piece of n bytes and behind the end.
func verifyScan(t *testing.T, text string, p api.Program, r reading, most, depth int, input string, n int) outcome {
	t.Helper()
	s := start(t, p, most, depth)
	got, fed := outcome{}, 0
	for ended := false; !ended; {
		ended = fed == len(input)
		tokens, e := []api.Token(nil), api.OK
		if ended {
			tokens, e = s.Finish()
		} else {
			piece := input[fed:min(fed+n, len(input))]
			tokens, e = s.Feed(piece)
			fed += len(piece)
		}
		got.tokens = append(got.tokens, tokens...)
		got.e, got.state = e, s.State()
		got.state.Steps = 0
		if want := r.scan(most, depth, input[:fed], ended); !reflect.DeepEqual(got, want) {
			t.Fatalf("%q, most %d, depth %d, %q in pieces of %d, behind %d bytes: %+v, want %+v", text, most, depth, input, n, fed, got, want)
		}
	}
	return got
}

// grow makes a pattern by chance.
func grow(chance *rand.Rand, depth int) string {
	if depth == 0 || chance.Intn(4) == 0 {
		atoms := []string{"x", "x", "x", "y", "y", "z", ".", "\\n", "\\s", "\xff", "\\(", "[xy]", "[x-z]", "[^x]", "[^y-\xff]", "[^\x00-\xff]", "[\\n-x]"}
		return atoms[chance.Intn(len(atoms))]
	}
	switch chance.Intn(8) {
	case 0, 1, 2, 3:
		return grow(chance, depth-1) + grow(chance, depth-1)
	case 4, 5:
		return "(" + grow(chance, depth-1) + "|" + grow(chance, depth-1) + ")"
	}
	return "(" + grow(chance, depth-1) + ")" + "*+?"[chance.Intn(3):][:1]
}

// growText makes a text that Check lets pass.
func growText(chance *rand.Rand) string {
	for {
		lines := []string{}
		for range 1 + chance.Intn(6) {
			mode := "aaabc"[chance.Intn(5):][:1]
			action := []string{"e", "e", "e", "s", "e>a", "e>b", "e+b", "e+c", "s+a", "e<"}[chance.Intn(10)]
			lines = append(lines, mode+" "+grow(chance, 1+chance.Intn(5))+" "+action)
		}
		text := strings.Join(lines, "\n")
		if e, _ := weir.Check(text); e == api.OK {
			return text
		}
	}
}

// growInput makes bytes that the rules mostly like.
func growInput(chance *rand.Rand, r reading) string {
	input, w := []byte{}, r.modes[0][0]
	for range chance.Intn(30) {
		b := "xxxxyyyzz( \n\xff\x00"[chance.Intn(14)]
		for try := 0; try < 9 && w.goOn && !w.longer[b].goOn && w.longer[b].rule < 0; try++ {
			b = "xxxxyyyzz( \n\xff\x00"[chance.Intn(14)]
		}
		input = append(input, b)
		w = w.longer[b]
		if !w.goOn {
			w = r.modes[chance.Intn(len(r.modes))][0]
		}
	}
	return string(input)
}

// TestAnyRules: what Compile makes of rules by chance, and what scanners make of that.
func TestAnyRules(t *testing.T) {
	chance := rand.New(rand.NewSource(11))
	ends, tokens := [14]int{}, 0
	for range 1500 {
		text := growText(chance)
		p, r := verifyText(t, text)
		for range 10 {
			input := growInput(chance, r)
			got := verifyScan(t, text, p, r, 1+chance.Intn(8), chance.Intn(4), input, 1+chance.Intn(4))
			ends[got.e]++
			tokens += len(got.tokens)
		}
	}
	for _, e := range []api.Errno{api.OK, api.ErrMatch, api.ErrToken, api.ErrDeep, api.ErrPop} {
		if ends[e] < 100 {
			t.Errorf("the rules are too tame: the error %d came %d times", e, ends[e])
		}
	}
	if tokens < 10000 {
		t.Errorf("the rules are too tame: %d tokens", tokens)
	}
}

// TestManySets: rules with as many sets as may be, in all modes.
func TestManySets(t *testing.T) {
	wide := strings.Join(strings.Split(without("()[]*+?|.\\ \n")[:40], ""), "|")
	for _, text := range []string{
		"a " + strings.Repeat("x", 40) + " e",
		"a (" + strings.Repeat("x", 40) + ")+ e",
		"a " + wide + " e",
		"a (" + wide + ")+ e",
		"a .*a.... e\nb .*b.... e\nc .*c... e\nd (.|\\n)*d[^\\n]... e",
		"a (a|b)*a(a|b)(a|b)(a|b)(a|b) e\na b+ e",
		"a [acegikmoqsuwy]*x.... e\nb [^acegikmoqsuwy]*x[aeiou].[aeiou]. e+a\nb . s",
	} {
		if e, n := weir.Check(text); e != api.OK {
			t.Fatalf("Check(%q) = %d, %d", text, e, n)
		}
		verifyText(t, text)
	}
}

func FuzzCompile(f *testing.F) {
	f.Add("a (a|[^b-d\\n]+)\\(c e+b\nb x*y s<", 3, 1, "aaa(cxxy", 2)
	f.Add("a .*a.... e\nd [z-a]? e>c", 64, 0, "abababababab", 5)
	f.Add("a ab e\na a s", 2, 0, "aab", 1)
	f.Fuzz(func(t *testing.T, text string, most, depth int, input string, cut int) {
		image, e := weir.Compile(text)
		if want, _ := weir.Check(text); e != want || (image == "") != (e != api.OK) {
			t.Fatalf("Compile(%q) = %x, %d, but Check: %d", text, image, e, want)
		}
		if e != api.OK || most < 1 || most > api.MaxLook || depth < 0 || depth > api.MaxDepth || len(input) > 200 {
			return
		}
		p, r := verifyText(t, text)
		verifyScan(t, text, p, r, most, depth, input, min(max(cut, 1), 64))
	})
}
