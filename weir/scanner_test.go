package weir_test

import (
	"math"
	"reflect"
	"strings"
	"testing"

	"weir/api"
	"weir/weir"
)

var next, stop = api.Ins{Op: api.Next}, api.Ins{Op: api.Stop}

func mark(rule int) api.Ins { return api.Ins{Op: api.Mark, A: rule} }

func jump(to int) api.Ins { return api.Ins{Op: api.Jump, To: to} }

func in(a, b byte, to int) api.Ins { return api.Ins{Op: api.In, A: int(a), B: int(b), To: to} }

func tok(rule, at, n, line, col int) api.Token {
	return api.Token{Rule: rule, At: at, Len: n, Line: line, Col: col}
}

func start(t *testing.T, p api.Program, most, depth int) *weir.Scanner {
	t.Helper()
	image, e := weir.Pack(p)
	if e != api.OK {
		t.Fatalf("Pack(%+v): %d", p, e)
	}
	s, e := weir.Start(image, most, depth)
	if s == nil || e != api.OK {
		t.Fatalf("Start(%x, %d, %d): %d", image, most, depth, e)
	}
	return s
}

func told(t *testing.T, call string, got []api.Token, e, wantE api.Errno, want []api.Token) {
	t.Helper()
	if e != wantE || len(got) != len(want) || len(want) > 0 && !reflect.DeepEqual(got, want) {
		t.Fatalf("%s = %v, %d, want %v, %d", call, got, e, want, wantE)
	}
}

func feed(t *testing.T, s *weir.Scanner, chunk string, e api.Errno, want ...api.Token) {
	t.Helper()
	tokens, got := s.Feed(chunk)
	told(t, "Feed", tokens, got, e, want)
}

func finish(t *testing.T, s *weir.Scanner, e api.Errno, want ...api.Token) {
	t.Helper()
	tokens, got := s.Finish()
	told(t, "Finish", tokens, got, e, want)
}

func state(t *testing.T, s *weir.Scanner, want api.State) {
	t.Helper()
	if got := s.State(); got != want {
		t.Fatalf("State = %+v, want %+v", got, want)
	}
}

// runs: as many a as there are, rule 0, all in one token; any other byte belongs to the token that it ends.
func runs() api.Program {
	return api.Program{
		Entries: []int{0},
		Rules:   []api.Rule{{Emit: 1}},
		Code:    []api.Ins{next, mark(0), in('a', 'a', 0), stop},
	}
}

// pairs: ab, rule 0, comes out; a alone, rule 1, and byte 10, rule 2, do not.
func pairs() api.Program {
	return api.Program{
		Entries: []int{0},
		Rules:   []api.Rule{{Emit: 1}, {}, {}},
		Code:    []api.Ins{next, in('a', 'a', 4), in(10, 10, 10), stop, mark(1), next, in('b', 'b', 8), stop, mark(0), stop, mark(2), stop},
	}
}

// brackets: in mode 0 a ( pushes mode 1, a ) pops, an x goes to mode 2, a y pushes mode 0; mode 1 has the
// same but for the x; mode 2 has y, which stays, and ), which pops.
func brackets() api.Program {
	return api.Program{
		Entries: []int{0, 6, 11},
		Rules: []api.Rule{
			{Emit: 1, Act: api.Push, Mode: 1},
			{Emit: 1, Act: api.Pop},
			{Emit: 1, Act: api.Go, Mode: 2},
			{Emit: 0, Act: api.Push, Mode: 0},
			{Emit: 1},
		},
		Code: []api.Ins{
			next, in('(', '(', 15), in(')', ')', 17), in('x', 'x', 19), in('y', 'y', 21), stop,
			next, in('(', '(', 15), in(')', ')', 17), in('y', 'y', 21), stop,
			next, in(')', ')', 17), in('y', 'y', 23), stop,
			mark(0), stop, mark(1), stop, mark(2), stop, mark(3), stop, mark(4), stop,
		},
	}
}

func TestP5Bounds(t *testing.T) {
	image, _ := weir.Pack(pairs())
	for _, most := range []int{math.MinInt, -1, 0, 1, 2, api.MaxLook - 1, api.MaxLook, api.MaxLook + 1, 257, math.MaxInt} {
		for _, depth := range []int{math.MinInt, -1, 0, 1, api.MaxDepth - 1, api.MaxDepth, api.MaxDepth + 1, 256, math.MaxInt} {
			want := api.OK
			if most < 1 || most > 64 || depth < 0 || depth > 8 {
				want = api.ErrArg
			}
			s, e := weir.Start(image, most, depth)
			if e != want || (s == nil) != (e != api.OK) {
				t.Errorf("Start(.., %d, %d) = %v, %d, want %d", most, depth, s, e, want)
			}
			if s != nil {
				state(t, s, api.State{Line: 1, Col: 1})
			}
		}
	}
}

// TestP5Image: ErrImage is named ahead of ErrArg.
func TestP5Image(t *testing.T) {
	loop := strings.Replace(exampleImage, "\x02\x00\x00\x00\x00", "\x04\x00\x00\x00\x00", 1)
	for _, image := range []string{"", "WR", exampleImage + "\x00", exampleImage[:len(exampleImage)-1], "x" + exampleImage, loop} {
		for _, c := range [][2]int{{1, 0}, {64, 8}, {0, 0}, {1, 9}, {-1, -1}} {
			if s, e := weir.Start(image, c[0], c[1]); s != nil || e != api.ErrImage {
				t.Errorf("Start(%x, %d, %d) = %v, %d, want ErrImage", image, c[0], c[1], s, e)
			}
		}
	}
}

// TestP5Entry: the beginning is in mode 0, wherever its entry is.
func TestP5Entry(t *testing.T) {
	p := api.Program{Entries: []int{2, 0}, Rules: []api.Rule{{Emit: 1}, {Emit: 1}}, Code: []api.Ins{mark(1), stop, next, mark(0), stop}}
	s := start(t, p, 1, 0)
	feed(t, s, "q", api.OK, tok(0, 0, 1, 1, 1))
}

func TestP6Example(t *testing.T) {
	s := start(t, example(), 2, 0)
	feed(t, s, "ab", api.OK, tok(0, 0, 1, 1, 1), tok(0, 1, 1, 1, 2))
	state(t, s, api.State{At: 2, Line: 1, Col: 3, Steps: 8})
	feed(t, s, "x", api.ErrMatch)
	state(t, s, api.State{At: 2, Line: 1, Col: 3, Steps: 11})
	for _, chunk := range []string{"", "a", "x"} {
		feed(t, s, chunk, api.ErrMatch)
	}
	finish(t, s, api.ErrMatch)
	state(t, s, api.State{At: 2, Line: 1, Col: 3, Steps: 11})
}

// TestP6Sure: a token comes out as soon as it is sure, and no sooner.
func TestP6Sure(t *testing.T) {
	s := start(t, pairs(), 2, 0)
	feed(t, s, "a", api.OK)
	state(t, s, api.State{Line: 1, Col: 1, Held: 1, Steps: 3})
	feed(t, s, "", api.OK)
	state(t, s, api.State{Line: 1, Col: 1, Held: 1, Steps: 3})
	feed(t, s, "a", api.OK)
	state(t, s, api.State{At: 1, Line: 1, Col: 2, Held: 1, Steps: 9})
	feed(t, s, "b", api.OK, tok(0, 1, 2, 1, 2))
	state(t, s, api.State{At: 3, Line: 1, Col: 4, Steps: 13})
}

// TestP6Errors: tokens ahead of an error come out beside it, once; then the error alone.
func TestP6Errors(t *testing.T) {
	for _, c := range []struct {
		p           api.Program
		most, depth int
		chunk       string
		e           api.Errno
		tokens      []api.Token
		state       api.State
	}{
		{pairs(), 2, 0, "ab\n?ab", api.ErrMatch, []api.Token{tok(0, 0, 2, 1, 1)}, api.State{At: 3, Line: 2, Col: 1, Steps: 7 + 5 + 4}},
		{runs(), 2, 0, "?aaa", api.ErrToken, []api.Token{tok(0, 0, 1, 1, 1)}, api.State{At: 1, Line: 1, Col: 2, Steps: 4 + 7}},
		{brackets(), 1, 1, "((y", api.ErrDeep, []api.Token{tok(0, 0, 1, 1, 1)}, api.State{At: 1, Line: 1, Col: 2, Mode: 1, Depth: 1, Steps: 4 + 4}},
		{brackets(), 1, 0, "y", api.ErrDeep, nil, api.State{Line: 1, Col: 1, Steps: 7}},
		{brackets(), 1, 1, "())(", api.ErrPop, []api.Token{tok(0, 0, 1, 1, 1), tok(1, 1, 1, 1, 2)}, api.State{At: 2, Line: 1, Col: 3, Steps: 4 + 5 + 5}},
		{brackets(), 1, 8, "x(", api.ErrMatch, []api.Token{tok(2, 0, 1, 1, 1)}, api.State{At: 1, Line: 1, Col: 2, Mode: 2, Steps: 6 + 4}},
	} {
		s := start(t, c.p, c.most, c.depth)
		feed(t, s, c.chunk, c.e, c.tokens...)
		state(t, s, c.state)
		feed(t, s, "ab", c.e)
		finish(t, s, c.e)
		finish(t, s, c.e)
		feed(t, s, "", c.e)
		state(t, s, c.state)
	}
}

// TestP6Most: ErrToken comes when another byte is there, not before; and not, if the input ends there.
func TestP6Most(t *testing.T) {
	for _, most := range []int{1, 2, 63, 64} {
		full := strings.Repeat("a", most)
		s := start(t, runs(), most, 0)
		feed(t, s, full, api.OK)
		state(t, s, api.State{Line: 1, Col: 1, Held: most, Steps: 3 * most})
		finish(t, s, api.OK, tok(0, 0, most, 1, 1))
		state(t, s, api.State{At: most, Line: 1, Col: most + 1, Steps: 3*most + 1})

		s = start(t, runs(), most, 0)
		feed(t, s, full, api.OK)
		feed(t, s, "b", api.ErrToken)
		state(t, s, api.State{Line: 1, Col: 1, Steps: 3*most + 1})

		s = start(t, runs(), most, 0)
		feed(t, s, full[1:]+"b"+full, api.OK, tok(0, 0, most, 1, 1))
		feed(t, s, "b", api.ErrToken)
		state(t, s, api.State{At: most, Line: 1, Col: most + 1, Steps: 3*most + 1 + 3*most + 1})
	}
}

// TestP6Marks: the last Mark counts; a token is as long as it was at its Mark; each token begins anew, with
// nothing marked and c being 0.
func TestP6Marks(t *testing.T) {
	p := api.Program{
		Entries: []int{0},
		Rules:   []api.Rule{{Emit: 1}, {Emit: 1}, {Emit: 1}},
		Code: []api.Ins{
			mark(2), in(0, 0, 3), stop,
			next, in('m', 'm', 6), stop,
			mark(1), mark(0), next, in('n', 'n', 11), stop,
			next, stop,
		},
	}
	s := start(t, p, 3, 0)
	feed(t, s, "mnmm", api.ErrMatch, tok(0, 0, 1, 1, 1))
	state(t, s, api.State{At: 1, Line: 1, Col: 2, Steps: 10 + 5})
}

// TestP6MarkAhead: a Mark ahead of the first byte counts for nothing.
func TestP6MarkAhead(t *testing.T) {
	p := api.Program{Entries: []int{0}, Rules: []api.Rule{{Emit: 1}}, Code: []api.Ins{mark(0), next, stop}}
	s := start(t, p, 3, 0)
	feed(t, s, "m", api.ErrMatch)
	state(t, s, api.State{Line: 1, Col: 1, Steps: 3})
}

// TestP6Ranges: In takes both its ends, and bytes above 127.
func TestP6Ranges(t *testing.T) {
	for _, c := range []struct{ a, b int }{{0, 0}, {0, 255}, {255, 255}, {127, 128}, {10, 200}} {
		p := api.Program{
			Entries: []int{0},
			Rules:   []api.Rule{{Emit: 1}, {Emit: 1}},
			Code:    []api.Ins{next, in(byte(c.a), byte(c.b), 4), mark(1), stop, mark(0), stop},
		}
		for b := range 256 {
			rule := 1
			if b >= c.a && b <= c.b {
				rule = 0
			}
			s := start(t, p, 1, 0)
			feed(t, s, string([]byte{byte(b)}), api.OK, tok(rule, 0, 1, 1, 1))
		}
	}
}

// TestP6Modes: Go leaves the stack as it is; Push and Pop are each other's undoing, of the mode too.
func TestP6Modes(t *testing.T) {
	s := start(t, brackets(), 1, 8)
	feed(t, s, "(y(y", api.OK, tok(0, 0, 1, 1, 1), tok(0, 2, 1, 1, 3))
	state(t, s, api.State{At: 4, Line: 1, Col: 5, Mode: 0, Depth: 4, Steps: 4 + 6 + 4 + 6})
	feed(t, s, "x", api.OK, tok(2, 4, 1, 1, 5))
	state(t, s, api.State{At: 5, Line: 1, Col: 6, Mode: 2, Depth: 4, Steps: 26})
	feed(t, s, "y)", api.OK, tok(4, 5, 1, 1, 6), tok(1, 6, 1, 1, 7))
	state(t, s, api.State{At: 7, Line: 1, Col: 8, Mode: 1, Depth: 3, Steps: 26 + 5 + 4})
	feed(t, s, ")", api.OK, tok(1, 7, 1, 1, 8))
	state(t, s, api.State{At: 8, Line: 1, Col: 9, Mode: 0, Depth: 2, Steps: 40})
	feed(t, s, "))", api.OK, tok(1, 8, 1, 1, 9), tok(1, 9, 1, 1, 10))
	state(t, s, api.State{At: 10, Line: 1, Col: 11, Mode: 0, Depth: 0, Steps: 50})
	feed(t, s, ")", api.ErrPop)
}

// TestP6Depth: so many modes as DEPTH tells, and not one more.
func TestP6Depth(t *testing.T) {
	for depth := range api.MaxDepth + 1 {
		s := start(t, brackets(), 1, depth)
		tokens, e := s.Feed(strings.Repeat("(", depth))
		if len(tokens) != depth || e != api.OK || s.State().Depth != depth {
			t.Errorf("depth %d: %v, %d, %+v", depth, tokens, e, s.State())
		}
		feed(t, s, "(", api.ErrDeep)
		if got := s.State(); got.At != depth || got.Depth != depth || got.Held != 0 {
			t.Errorf("depth %d: %+v", depth, got)
		}
	}
}

// TestP6Lines: byte 10 alone makes a line; in a token that does not come out, and in a token's midst, too.
func TestP6Lines(t *testing.T) {
	p := api.Program{
		Entries: []int{0},
		Rules:   []api.Rule{{Emit: 1}, {}},
		Code:    []api.Ins{next, in('.', '.', 4), in('!', '!', 6), jump(0), mark(0), stop, mark(1), stop},
	}
	s := start(t, p, 64, 0)
	feed(t, s, "a\nb\n.c!\r\v\f.\n\n!\xff.\n.", api.OK, tok(0, 0, 5, 1, 1), tok(0, 7, 4, 3, 4), tok(0, 14, 2, 5, 2), tok(0, 16, 2, 5, 4))
	if got := s.State(); got.At != 18 || got.Line != 6 || got.Col != 2 {
		t.Errorf("State = %+v", got)
	}
}

func TestP7Finish(t *testing.T) {
	s := start(t, pairs(), 2, 0)
	feed(t, s, "aba", api.OK, tok(0, 0, 2, 1, 1))
	state(t, s, api.State{At: 2, Line: 1, Col: 3, Held: 1, Steps: 7 + 3})
	finish(t, s, api.OK)
	end := api.State{At: 3, Line: 1, Col: 4, Steps: 11}
	state(t, s, end)
	for _, chunk := range []string{"", "a", "?"} {
		feed(t, s, chunk, api.ErrEnd)
		finish(t, s, api.ErrEnd)
		state(t, s, end)
	}
}

// TestP7Left: several tokens, or an error with tokens ahead of it, may be left for Finish.
func TestP7Left(t *testing.T) {
	p := api.Program{
		Entries: []int{0},
		Rules:   []api.Rule{{Emit: 1}},
		Code:    []api.Ins{next, in('?', '?', 3), mark(0), next, next, next, stop},
	}
	s := start(t, p, 9, 0)
	feed(t, s, "abc", api.OK)
	finish(t, s, api.OK, tok(0, 0, 1, 1, 1), tok(0, 1, 1, 1, 2), tok(0, 2, 1, 1, 3))
	state(t, s, api.State{At: 3, Line: 1, Col: 4, Steps: 6 + 5 + 4})
	finish(t, s, api.ErrEnd)

	s = start(t, p, 9, 0)
	feed(t, s, "ab?", api.OK)
	finish(t, s, api.ErrMatch, tok(0, 0, 1, 1, 1), tok(0, 1, 1, 1, 2))
	state(t, s, api.State{At: 2, Line: 1, Col: 3, Steps: 6 + 5 + 3})
	finish(t, s, api.ErrMatch)
	feed(t, s, "a", api.ErrMatch)
}

// TestP7Nothing: behind the input's last byte no token is sought, not even by a program that looks at nothing.
func TestP7Nothing(t *testing.T) {
	for _, code := range [][]api.Ins{{stop}, {mark(0), stop}, {next, mark(0), stop}} {
		s := start(t, api.Program{Entries: []int{0}, Rules: []api.Rule{{Emit: 1}}, Code: code}, 1, 0)
		feed(t, s, "", api.OK)
		finish(t, s, api.OK)
		state(t, s, api.State{Line: 1, Col: 1})
		finish(t, s, api.ErrEnd)
	}
}

// TestP8Steps: the longest way there may be, a Mark at each step.
func TestP8Steps(t *testing.T) {
	code := []api.Ins{next}
	for len(code) < api.MaxCode-1 {
		code = append(code, mark(0))
	}
	code = append(code, jump(0))
	s := start(t, api.Program{Entries: []int{0}, Rules: []api.Rule{{Emit: 1}}, Code: code}, 3, 0)
	feed(t, s, "ab", api.OK)
	state(t, s, api.State{Line: 1, Col: 1, Held: 2, Steps: 2 * api.MaxCode})
	feed(t, s, "c", api.OK)
	state(t, s, api.State{Line: 1, Col: 1, Held: 3, Steps: 3 * api.MaxCode})
	finish(t, s, api.OK, tok(0, 0, 3, 1, 1))
	state(t, s, api.State{At: 3, Line: 1, Col: 4, Steps: 3*api.MaxCode + 1})
}

// outcome: all that came of an input, fed in pieces of n bytes.
type outcome struct {
	tokens []api.Token
	e      api.Errno
	state  api.State
}

func inPieces(t *testing.T, p api.Program, most, depth int, input string, n int) outcome {
	t.Helper()
	s := start(t, p, most, depth)
	var o outcome
	for at := 0; at < len(input); at += n {
		tokens, e := s.Feed(input[at:min(at+n, len(input))])
		o.tokens = append(o.tokens, tokens...)
		if held := s.State().Held; held > most || e != api.OK && held != 0 {
			t.Fatalf("most %d, %d held, error %d", most, held, e)
		}
	}
	tokens, e := s.Finish()
	o.tokens = append(o.tokens, tokens...)
	o.e, o.state = e, s.State()
	return o
}

func TestP9Pieces(t *testing.T) {
	for _, c := range []struct {
		p           api.Program
		most, depth int
		input       string
		e           api.Errno
	}{
		{pairs(), 2, 0, strings.Repeat("abaab\na\n", 300), api.OK},
		{pairs(), 2, 0, strings.Repeat("abaab\na\n", 20) + "b" + "aa", api.ErrMatch},
		{pairs(), 1, 0, strings.Repeat("\n", 90) + "aa", api.ErrToken},
		{runs(), 64, 0, strings.Repeat("a", 63) + "b" + strings.Repeat("a", 64), api.OK},
		{runs(), 64, 0, strings.Repeat("a", 63) + "b" + strings.Repeat("a", 65), api.ErrToken},
		{brackets(), 1, 8, strings.Repeat("((yx)y)))", 40), api.OK},
		{brackets(), 1, 8, strings.Repeat("(y)y))", 40) + "x(", api.ErrMatch},
		{brackets(), 1, 8, strings.Repeat("((()))", 40) + ")", api.ErrPop},
		{brackets(), 1, 8, strings.Repeat("(", 10), api.ErrDeep},
	} {
		whole := inPieces(t, c.p, c.most, c.depth, c.input, len(c.input))
		if whole.e != c.e {
			t.Errorf("%q: %d, want %d", c.input, whole.e, c.e)
		}
		for n := 1; n < len(c.input); n++ {
			if got := inPieces(t, c.p, c.most, c.depth, c.input, n); !reflect.DeepEqual(got, whole) {
				t.Fatalf("%q in pieces of %d: %+v, want %+v", c.input, n, got, whole)
			}
		}
	}
}

// TestP2Tokens: a list of tokens is the caller's, with its spare room.
func TestP2Tokens(t *testing.T) {
	s, other := start(t, pairs(), 2, 0), start(t, pairs(), 2, 0)
	first, _ := s.Feed("ababab")
	second, _ := s.Feed("abab")
	elsewhere, _ := other.Feed("abab")
	wreck(first)
	third, _ := s.Feed("ababa")
	told(t, "Feed", second, api.OK, api.OK, []api.Token{tok(0, 6, 2, 1, 7), tok(0, 8, 2, 1, 9)})
	told(t, "Feed", elsewhere, api.OK, api.OK, []api.Token{tok(0, 0, 2, 1, 1), tok(0, 2, 2, 1, 3)})
	wreck(second)
	told(t, "Feed", third, api.OK, api.OK, []api.Token{tok(0, 10, 2, 1, 11), tok(0, 12, 2, 1, 13)})
	wreck(third)
	feed(t, s, "b", api.OK, tok(0, 14, 2, 1, 15))
	finish(t, other, api.OK)
	feed(t, s, "ab", api.OK, tok(0, 16, 2, 1, 17))
}

// wreck writes over a list and its spare room.
func wreck(tokens []api.Token) {
	tokens = tokens[:cap(tokens)]
	for i := range tokens {
		tokens[i] = tok(-1, -1, -1, -1, -1)
	}
}

// TestP2Apart: scanners of one image, turn by turn, do as each would alone.
func TestP2Apart(t *testing.T) {
	x, y := start(t, brackets(), 1, 2), start(t, brackets(), 1, 1)
	feed(t, x, "(", api.OK, tok(0, 0, 1, 1, 1))
	feed(t, y, "x", api.OK, tok(2, 0, 1, 1, 1))
	feed(t, x, "(", api.OK, tok(0, 1, 1, 1, 2))
	feed(t, y, "y", api.OK, tok(4, 1, 1, 1, 2))
	feed(t, x, "(", api.ErrDeep)
	feed(t, y, "y", api.OK, tok(4, 2, 1, 1, 3))
	finish(t, y, api.OK)
	feed(t, x, "(", api.ErrDeep)
	state(t, x, api.State{At: 2, Line: 1, Col: 3, Mode: 1, Depth: 2, Steps: 4 + 4 + 4})
	state(t, y, api.State{At: 3, Line: 1, Col: 4, Mode: 2, Steps: 6 + 5 + 5})
}

// FuzzScan: whatever the image and the bytes, every call ends, and the pieces make no difference.
func FuzzScan(f *testing.F) {
	for _, p := range []api.Program{example(), pairs(), runs(), brackets(), mixed()} {
		image, _ := weir.Pack(p)
		f.Add(image, 3, 2, "ab(x)yaab\n", 4)
	}
	f.Fuzz(func(t *testing.T, image string, most, depth int, input string, cut int) {
		p, unpacked := weir.Unpack(image)
		s, e := weir.Start(image, most, depth)
		if (s == nil) != (e != api.OK) || (e == api.ErrImage) != (unpacked != api.OK) {
			t.Fatalf("Start = %v, %d; Unpack gives %d", s, e, unpacked)
		}
		if e != api.OK || len(input) > 200 {
			return
		}
		n := min(max(cut, 1), 64)
		whole := inPieces(t, p, most, depth, input, len(input)+1)
		if got := inPieces(t, p, most, depth, input, n); !reflect.DeepEqual(got, whole) {
			t.Fatalf("in pieces of %d: %+v, want %+v", n, got, whole)
		}
	})
}
