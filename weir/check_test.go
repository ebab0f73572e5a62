package weir_test

import (
	"strings"
	"testing"

	"weir/api"
	"weir/weir"
)

func check(t *testing.T, text string, want api.Errno, number int) {
	t.Helper()
	if e, at := weir.Check(text); e != want || at != number {
		t.Errorf("Check(%.80q) = %d, %d, want %d, %d", text, e, at, want, number)
	}
}

func TestP10Examples(t *testing.T) {
	check(t, "a b", api.ErrSyntax, 3)
	check(t, "a  e", api.ErrSyntax, 2)
	check(t, "a (b e", api.ErrSyntax, 4)
	check(t, "a [b-] e", api.ErrSyntax, 5)
	check(t, "a b* e", api.ErrEmpty, 0)
	check(t, "a [z-a] e", api.ErrRange, 0)
	check(t, "e b e", api.ErrSyntax, 0)
	check(t, "", api.ErrSyntax, 0)
	check(t, "a b e\n", api.ErrSyntax, 6)
	check(t, "a (a|b)*a(a|b) e", api.OK, 0)
	check(t, "a .*a.... e", api.OK, 0)
	check(t, "a .*a..... e", api.ErrStates, 0)
	check(t, "a x(a|b)*y e", api.OK, 0)
	check(t, "a ab e\na a s", api.OK, 0)
	check(t, "a \\( e+b\nb [^()]+ s\nb \\( e+b\nb \\) e<", api.OK, 0)
}

func TestP10Rules(t *testing.T) {
	for _, text := range []string{
		"a x e", "b x s", "c x e<", "d x s<", "a x e>a", "a x e>d", "a x s+a", "a x s+d",
		"a abc|de|f e", "a ((x)) e", "a (x|(y|z)w) e", "a x+ e", "a x*y e", "a x?+*??y e", "a (x|y)+(z)* e",
		"a . e", "a \\n\\s e", "a -^,{}/ e", "a ab<>=& e", "a \x00\x7f\x80\xff\r\t e",
		"a [x] e", "a [^x] e", "a [xyz] e", "a [a-z0-9_] e", "a [^a-z\\n] e", "a [x^] e", "a [^^] e", "a [\\^] e",
		"a [()*+?|.[] e", "a [\\(\\)\\[\\]\\*\\+\\?\\|\\.\\\\\\-\\^\\n\\s] e", "a [\\[-\\]] e", "a [x][y][^z]+ e", "a [[-^] e", "a [\x00-\xff] e",
		"d x e\nc x e\nb x e\na x e", "a x e\na x e", "c x e", "a x e>c",
	} {
		check(t, text, api.OK, 0)
	}
}

func TestP10Syntax(t *testing.T) {
	for _, c := range []struct {
		text string
		at   int
	}{
		// Lines.
		{"a", 1}, {"a ", 2}, {"a x", 3}, {"a x ", 4}, {"\n", 0}, {" ", 0}, {"x", 0}, {"aa x e", 1}, {"a\nx e", 1}, {"a x\n", 3}, {"a x \n", 4},
		{"a x e e", 5}, {"a x e\n\n", 6}, {"a x e\n a x e", 6}, {"a x e\r\n", 5}, {"a x e\na x e\nf", 12}, {"a x e\na x e\n", 12}, {"a x e\na", 7}, {"a x e\x00", 5},
		// Actions.
		{"a x E", 4}, {"a x ee", 5}, {"a x <", 4}, {"a x e>", 6}, {"a x e+", 6}, {"a x e>e", 6}, {"a x s+ a", 6}, {"a x e<b", 6}, {"a x e<>", 6}, {"a x s>a<", 7}, {"a x s+a+b", 7}, {"a x e-", 5},
		// Patterns.
		{"a |x e", 2}, {"a x| e", 4}, {"a x|", 4}, {"a x||y e", 4}, {"a x|*y e", 4}, {"a + e", 2}, {"a ? e", 2}, {"a x y e", 4}, {"a x*y z e", 6},
		{"a ( e", 3}, {"a () e", 3}, {"a (", 3}, {"a (x", 4}, {"a (x| e", 5}, {"a (x|) e", 5}, {"a (?x) e", 3}, {"a x) e", 3}, {"a ((x) e", 6}, {"a (x))", 5}, {"a (x\n", 4}, {"a ]", 2}, {"a x] e", 3}, {"a (x] e", 4},
		// Escapes.
		{"a \\", 3}, {"a \\x e", 3}, {"a \\ e", 3}, {"a \\\n", 3}, {"a x\\t e", 4}, {"a [\\", 4}, {"a [\\t] e", 4}, {"a [x-\\", 6}, {"a [x-\\t] e", 6},
		// Classes.
		{"a [", 3}, {"a [] e", 3}, {"a []] e", 3}, {"a [^", 4}, {"a [^] e", 4}, {"a [^]] e", 4}, {"a [-x] e", 3}, {"a [^-x] e", 4}, {"a [x-", 5}, {"a [x-] e", 5}, {"a [^x-] e", 6}, {"a [x--] e", 5}, {"a [x-z-] e", 6}, {"a [a-cx-] e", 8},
		{"a [x e", 4}, {"a [x\n", 4}, {"a [ ] e", 3}, {"a [x", 4}, {"a [x-z", 6}, {"a [x-y", 6}, {"a [z-a", 6},
	} {
		check(t, c.text, api.ErrSyntax, c.at)
	}
}

// without gives all bytes but these.
func without(bytes string) string {
	rest := []byte{}
	for b := range 256 {
		if strings.IndexByte(bytes, byte(b)) < 0 {
			rest = append(rest, byte(b))
		}
	}
	return string(rest)
}

// TestP10EveryByte puts every byte where only some may stand: right ones, ones behind which the rest is wrong, and
// all others, which are wrong themselves.
func TestP10EveryByte(t *testing.T) {
	plain, signs, escapes := without("()[]*+?|.\\ \n"), without("]\\- \n"), "()[]*+?|.\\-^ns"
	for _, spot := range []struct{ before, after, right, begun string }{
		{"", " x e", "abcd", ""},
		{"a", "x e", " ", ""},
		{"a ", " e", plain + ".", "([\\"},
		{"a xy", " e", plain + ".*+?", "([\\| "},
		{"a x|", " e", plain + ".", "([\\"},
		{"a (", ") e", plain + ".", "([\\"},
		{"a (x", ") e", plain + ".+", "([\\|)*?"},
		{"a \\", " e", escapes, ""},
		{"a [", "] e", strings.ReplaceAll(signs, "^", ""), "^\\"},
		{"a [^", "] e", signs, "\\"},
		{"a [x", "] e", signs, "-\\]"},
		{"a [\x00-", "] e", signs, "\\"},
		{"a [x-z", "] e", signs, "\\]"},
		{"a [\\", "] e", escapes, ""},
		{"a [\x00-\\", "] e", escapes, ""},
		{"a x ", "", "es", ""},
		{"a x e", "", "<", "\n>+"},
		{"a x s", "", "<", "\n>+"},
		{"a x e>", "", "abcd", ""},
		{"a x s+", "", "abcd", ""},
		{"a x e<", "", "", "\n"},
		{"a x e>b", "", "", "\n"},
		{"a x e\n", " x e", "abcd", ""},
	} {
		for b := range 256 {
			c := string([]byte{byte(b)})
			text := spot.before + c + spot.after
			switch {
			case strings.Contains(spot.right, c):
				check(t, text, api.OK, 0)
			case strings.Contains(spot.begun, c):
				if e, at := weir.Check(text); at <= len(spot.before) && e != api.ErrEmpty {
					t.Errorf("Check(%q) = %d, %d, want a place behind %q", text, e, at, spot.before+c)
				}
			default:
				check(t, text, api.ErrSyntax, len(spot.before))
			}
		}
	}
}

// TestP10Begins cuts rules everywhere: with every beginning some rules begin.
func TestP10Begins(t *testing.T) {
	text := "a ((x|y)+|[^a-c\\]-z]*\\.?)(\\n|.) e>b\nb [[^]+ s<\nc z?\\s\\s* e+d\nd (((q))) s"
	check(t, text, api.OK, 0)
	for n := range len(text) {
		begun := text[:n]
		e, at := weir.Check(begun)
		action := begun[strings.LastIndexByte(begun, ' ')+1:]
		if strings.Contains(" e s e>b s< e+d ", " "+action+" ") {
			if e != api.OK || at != 0 {
				t.Errorf("Check(%q) = %d, %d, want 0, 0", begun, e, at)
			}
		} else if e != api.ErrSyntax || at != n {
			t.Errorf("Check(%q) = %d, %d, want %d, %d", begun, e, at, api.ErrSyntax, n)
		}
		// No rules have this behind any beginning.
		wrong := begun + "\n\n"
		if e, at := weir.Check(wrong); e != api.ErrSyntax || at != n && at != n+1 {
			t.Errorf("Check(%q) = %d, %d, want %d, %d or %d", wrong, e, at, api.ErrSyntax, n, n+1)
		}
	}
}

// TestP10Lines: a 17th line is none, and so is what would begin it.
func TestP10Lines(t *testing.T) {
	sixteen := strings.Repeat("a x e\n", 15) + "a x e"
	check(t, sixteen, api.OK, 0)
	check(t, sixteen+"<", api.OK, 0)
	check(t, sixteen+"\n", api.ErrSyntax, 95)
	check(t, sixteen+"\na x e", api.ErrSyntax, 95)
	check(t, sixteen+"<\na x e", api.ErrSyntax, 96)
	check(t, sixteen+">\n", api.ErrSyntax, 96)
	check(t, sixteen[:90], api.ErrSyntax, 90)
	check(t, sixteen[:89], api.OK, 0)
}

func TestP10Long(t *testing.T) {
	check(t, "a ["+strings.Repeat("x", api.MaxText-6)+"] e", api.OK, 0)
	check(t, "a ["+strings.Repeat("x", api.MaxText-5)+"] e", api.ErrLong, 0)
	check(t, strings.Repeat("\n", 300), api.ErrSyntax, 0)
	check(t, strings.Repeat("\n", 301), api.ErrLong, 0)
	check(t, strings.Repeat("(", 1<<24), api.ErrLong, 0)
	check(t, "a z* e\na [z-a] e\n"+strings.Repeat("x", 300), api.ErrLong, 0)
	// Rules that begin so have more than MaxText bytes, but they begin so.
	check(t, "a "+strings.Repeat("(", 298), api.ErrSyntax, 300)
	check(t, "a "+strings.Repeat("x", 298), api.ErrSyntax, 300)
	check(t, "a "+strings.Repeat("(", 297)+")", api.ErrSyntax, 299)
	// As deep as a text can be.
	check(t, "a "+strings.Repeat("(", 147)+"x"+strings.Repeat(")", 147)+" e", api.OK, 0)
	check(t, "a x"+strings.Repeat("+", 295)+" e", api.OK, 0)
	check(t, "a x"+strings.Repeat("?", 295)+" e", api.ErrEmpty, 0)
}

func TestP10Range(t *testing.T) {
	check(t, "a x e\na [b-a] e", api.ErrRange, 1)
	check(t, "a [a-b] e\nb [^a-by-x] e\nc [z-a] e", api.ErrRange, 1)
	check(t, "a ((x|[yb-a])*z)+ e", api.ErrRange, 0)
	check(t, "a [b-a][a-b] e", api.ErrRange, 0)
	check(t, "a [\\s-\\n] e", api.ErrRange, 0)
	check(t, "a [\\^-\\]] e", api.ErrRange, 0)
	check(t, "a [n-\\n] e", api.ErrRange, 0)
	check(t, "a [\\n-n] e", api.OK, 0)
	check(t, "a [x-x] e", api.OK, 0)
	check(t, "a b-a e", api.OK, 0)
	for low := range 256 {
		for high := range 256 {
			want := api.OK
			if low > high {
				want = api.ErrRange
			}
			check(t, "a [\\^"+sign(low)+"-"+sign(high)+"] e", want, 0)
		}
	}
}

// sign writes a byte as a class wants it.
func sign(b int) string {
	switch b {
	case ' ':
		return "\\s"
	case '\n':
		return "\\n"
	case ']', '\\', '-':
		return "\\" + string(rune(b))
	}
	return string([]byte{byte(b)})
}

func TestP10Empty(t *testing.T) {
	for _, pattern := range []string{
		"x*", "x?", "x*y?", "x|y*", "x*|y", "(x?)", "(x?)+", "(x*)+", "(x+)*", "(x+)?", "(xy)*", "x+?", "x?+", "x*+", "x+*",
		"x?y?z*", "(x|y?)(z|w*)", "x|(y|(z|w?))", "[^\x00-\xff]*", "[a-z]?", ".*", "\\**", "(((x)?))", "(x|y?)+",
	} {
		check(t, "a "+pattern+" e", api.ErrEmpty, 0)
		check(t, "a x e\nb "+pattern+" s<\na x* e", api.ErrEmpty, 1)
		check(t, "a ("+pattern+")w e", api.OK, 0)
		check(t, "a w("+pattern+") e", api.OK, 0)
		check(t, "a (w("+pattern+"))+ e", api.OK, 0)
	}
	for _, pattern := range []string{"x+", "x**y", "x++", "(x|y)+", "(x?y)+", "x*yz*", "x|y+", "\\*", "\\?", "[*]", "[^\x00-\xff]", "[?]+"} {
		check(t, "a "+pattern+" e", api.OK, 0)
	}
}

func TestP10States(t *testing.T) {
	forty := strings.Repeat("x", 40)
	check(t, "a "+forty+" e", api.OK, 0)
	check(t, "a "+forty+"x e", api.ErrStates, 0)
	check(t, "a "+forty+" e\nb "+forty+" e\nc "+forty+" e\nd "+forty+" e", api.OK, 0)
	check(t, "a "+forty+" e\nb "+forty+" e\nc "+forty+"x e\nd "+forty+"x e", api.ErrStates, 2)
	check(t, "d "+forty+"x e\nb "+forty+"x e", api.ErrStates, 1)
	check(t, "d "+forty+"x e", api.ErrStates, 3)
	// All rules of a mode together.
	check(t, "a "+forty+" e\na x e", api.OK, 0)
	check(t, "a "+forty+" e\na y e", api.ErrStates, 0)
	check(t, "a "+forty[:39]+" e\na y e", api.OK, 0)
	check(t, "a "+forty[:20]+" e\nb y e\na y"+forty[:20]+" e", api.ErrStates, 0)
	// Places that are many, but no sets of their own; and words that cannot be.
	check(t, "a ("+strings.Repeat("x|", 140)+"y) e", api.OK, 0)
	check(t, "a "+strings.Repeat("[^\x00-\xff]", 40)+" e", api.OK, 0)
	check(t, "a [^\x00-\xff]?"+forty+" e", api.OK, 0)
	check(t, "a [^\x00-\xff]"+forty+"x e", api.OK, 0)
	check(t, "a ("+forty+")+ e", api.OK, 0)
	// As many bytes as there are, each with its set at once.
	check(t, "a "+strings.Join(strings.Split(without("()[]*+?|.\\ \n")[:40], ""), "|")+" e", api.OK, 0)
	check(t, "a "+strings.Join(strings.Split(without("()[]*+?|.\\ \n")[:41], ""), "|")+" e", api.ErrStates, 0)
}

// TestP10First: of several errors the one named first, and of each its first rule or mode.
func TestP10First(t *testing.T) {
	many := "b " + strings.Repeat("x", 41) + " e"
	check(t, many+"\na x* e\na [z-a] e\nx", api.ErrSyntax, len(many)+18)
	check(t, many+"\na x* e\na [z-a] e", api.ErrRange, 2)
	check(t, many+"\na x* e\na x? e", api.ErrEmpty, 1)
	check(t, many+"\na x e", api.ErrStates, 1)
	check(t, "a [z-a]* e", api.ErrRange, 0)
	check(t, "a [z-a", api.ErrSyntax, 6)
	check(t, "a [z-a]* e\nb", api.ErrSyntax, 12)
}

func FuzzCheck(f *testing.F) {
	f.Add("a (a|[^b-d\\n]+)\\(c e+b\nb x*y s<")
	f.Add("a .*a.... e\nd [z-a]? e>c")
	f.Fuzz(func(t *testing.T, text string) {
		e, at := weir.Check(text)
		switch e {
		case api.OK, api.ErrLong:
			if at != 0 || (e == api.ErrLong) != (len(text) > api.MaxText) {
				t.Fatalf("Check(%q) = %d, %d", text, e, at)
			}
		case api.ErrSyntax:
			if at < 0 || at > len(text) {
				t.Fatalf("Check(%q) = %d, %d", text, e, at)
			}
			if e, n := weir.Check(text[:at]); e == api.ErrSyntax && n != at {
				t.Fatalf("Check(%q) = %d, %d, but of %d bytes of it %d, %d", text, api.ErrSyntax, at, at, e, n)
			}
			if at < len(text) {
				check(t, text[:at+1], api.ErrSyntax, at)
			}
		case api.ErrRange, api.ErrEmpty:
			if at < 0 || at > strings.Count(text, "\n") {
				t.Fatalf("Check(%q) = %d, %d", text, e, at)
			}
		case api.ErrStates:
			if at < 0 || at >= api.MaxModes {
				t.Fatalf("Check(%q) = %d, %d", text, e, at)
			}
		default:
			t.Fatalf("Check(%q) = %d, %d", text, e, at)
		}
	})
}
