package scan

import (
	"fmt"
	"math/rand"
	"reflect"
	"strings"
	"testing"

	"weir/api"
	"weir/program"
)

// model does what DOC.md says under 'Scanning', over the whole input, from its beginning, in one go.
type model struct {
	p           api.Program
	most, depth int
	input       string
	ended       bool

	state  api.State
	stack  []int
	tokens []api.Token
	e      api.Errno
}

// seek gives what is marked, and whether the seeking stopped.
func (m *model) seek() (rule, n int, stopped bool) {
	looked, c := 0, byte(0)
	for i := m.p.Entries[m.state.Mode]; ; {
		ins := m.p.Code[i]
		there := m.state.At+looked < len(m.input)
		if ins.Op == api.Next && !there && !m.ended {
			return 0, 0, false
		}
		m.state.Steps++
		switch {
		case ins.Op == api.Mark && looked > 0:
			rule, n = ins.A, looked
			i++
		case ins.Op == api.Next && there && looked == m.most:
			m.e = api.ErrToken
			return 0, 0, true
		case ins.Op == api.Next && there:
			c = m.input[m.state.At+looked]
			looked++
			i++
		case ins.Op == api.Next || ins.Op == api.Stop:
			return rule, n, true
		case ins.Op == api.Jump || ins.Op == api.In && ins.A <= int(c) && int(c) <= ins.B:
			i = ins.To
		default:
			i++
		}
	}
}

func (m *model) all() {
	m.state.Line, m.state.Col = 1, 1
	for m.e == api.OK && m.state.At < len(m.input) {
		rule, n, stopped := m.seek()
		if !stopped {
			break
		}
		if m.e == api.OK {
			m.token(rule, n)
		}
	}
	if m.e == api.OK {
		m.state.Held = len(m.input) - m.state.At
	}
}

func (m *model) token(number, n int) {
	rule := m.p.Rules[number]
	switch {
	case n == 0:
		m.e = api.ErrMatch
	case rule.Act == api.Push && len(m.stack) == m.depth:
		m.e = api.ErrDeep
	case rule.Act == api.Pop && len(m.stack) == 0:
		m.e = api.ErrPop
	}
	if m.e != api.OK {
		return
	}
	if rule.Emit == 1 {
		m.tokens = append(m.tokens, api.Token{Rule: number, At: m.state.At, Len: n, Line: m.state.Line, Col: m.state.Col})
	}
	m.state.At += n
	before := m.input[:m.state.At]
	m.state.Line = 1 + strings.Count(before, "\n")
	m.state.Col = len(before) - strings.LastIndex(before, "\n")
	switch rule.Act {
	case api.Go:
		m.state.Mode = rule.Mode
	case api.Push:
		m.stack = append(m.stack, m.state.Mode)
		m.state.Mode = rule.Mode
	case api.Pop:
		m.state.Mode = m.stack[len(m.stack)-1]
		m.stack = m.stack[:len(m.stack)-1]
	}
	m.state.Depth = len(m.stack)
}

// want gives the model's tokens, error and state of an input.
func want(p api.Program, most, depth int, input string, ended bool) ([]api.Token, api.Errno, api.State) {
	m := model{p: p, most: most, depth: depth, input: input, ended: ended}
	m.all()
	return m.tokens, m.e, m.state
}

// compare runs a program over pieces, and asks behind each, and behind the end, whether the run is where
// the model is that has read the same bytes in one go. It gives the error behind the end.
func compare(t *testing.T, p api.Program, most, depth int, pieces []string) api.Errno {
	t.Helper()
	r := Begin(p, most, depth)
	input, got := "", []api.Token(nil)
	fault := api.OK
	for i := 0; i <= len(pieces); i++ {
		ended := i == len(pieces)
		var tokens []api.Token
		var e api.Errno
		if ended {
			tokens, e = r.Finish()
		} else {
			input += pieces[i]
			tokens, e = r.Feed(pieces[i])
		}
		if fault != api.OK && len(tokens) > 0 {
			t.Fatalf("tokens %v behind the error %d", tokens, fault)
		}
		fault = e
		got = append(got, tokens...)
		wantTokens, wantE, wantState := want(p, most, depth, input, ended)
		state := r.State()
		if !reflect.DeepEqual(got, wantTokens) || e != wantE || state != wantState {
			t.Fatalf("%+v, most %d, depth %d, pieces %q, behind number %d: %v, %d, %+v, want %v, %d, %+v",
				p, most, depth, pieces, i, got, e, state, wantTokens, wantE, wantState)
		}
		if e == api.OK && state.Held > most {
			t.Fatalf("%+v, most %d, pieces %q, behind number %d: %d are held", p, most, pieces, i, state.Held)
		}
	}
	return fault
}

// cut gives every way to cut an input into pieces, of one byte or more.
func cut(input string) [][]string {
	if input == "" {
		return [][]string{nil}
	}
	var ways [][]string
	for n := 1; n <= len(input); n++ {
		for _, way := range cut(input[n:]) {
			ways = append(ways, append([]string{input[:n]}, way...))
		}
	}
	return ways
}

// inputs gives every word of at most n of the alphabet's bytes.
func inputs(alphabet string, n int) []string {
	words := []string{""}
	for at := 0; at < len(words); at++ {
		if len(words[at]) == n {
			continue
		}
		for i := range len(alphabet) {
			words = append(words, words[at]+alphabet[i:i+1])
		}
	}
	return words
}

var next, stop = api.Ins{Op: api.Next}, api.Ins{Op: api.Stop}

func mark(rule int) api.Ins { return api.Ins{Op: api.Mark, A: rule} }

func jump(to int) api.Ins { return api.Ins{Op: api.Jump, To: to} }

func in(a, b byte, to int) api.Ins { return api.Ins{Op: api.In, A: int(a), B: int(b), To: to} }

// far: a, rule 0, and a(ab)*b, rule 1: it must look far ahead, and may come back with little; byte 10, rule 2.
func far() api.Program {
	return api.Program{
		Entries: []int{0},
		Rules:   []api.Rule{{Emit: 1}, {Emit: 1}, {}},
		Code: []api.Ins{
			next, in('a', 'a', 4), in(10, 10, 12), stop,
			mark(0), next, in('a', 'a', 9), in('b', 'b', 14), stop,
			next, in('b', 'b', 5), stop,
			mark(2), stop,
			mark(1), stop,
		},
	}
}

// turns: modes that are gone to, pushed and popped.
func turns() api.Program {
	return api.Program{
		Entries: []int{0, 6},
		Rules:   []api.Rule{{Emit: 1, Act: api.Push, Mode: 1}, {Emit: 1, Act: api.Pop}, {Act: api.Go, Mode: 1}, {Emit: 1, Act: api.Go}},
		Code: []api.Ins{
			next, in('(', '(', 12), in(')', ')', 14), in('x', 'x', 16), in('y', 'y', 18), stop,
			next, in('(', '(', 12), in(')', ')', 14), in('y', 'y', 18), next, jump(7),
			mark(0), stop,
			mark(1), stop,
			mark(2), stop,
			mark(3), next, in('y', 'y', 18), stop,
		},
	}
}

// TestEveryPiece: every short input, cut in every way.
func TestEveryPiece(t *testing.T) {
	for _, c := range []struct {
		p        api.Program
		alphabet string
		n        int
	}{
		{far(), "ab\n", 6},
		{turns(), "()xy", 5},
	} {
		if !program.Right(c.p) {
			t.Fatalf("not right: %+v", c.p)
		}
		for _, input := range inputs(c.alphabet, c.n) {
			for _, pieces := range cut(input) {
				for most := 1; most <= 4; most++ {
					compare(t, c.p, most, most-1, pieces)
				}
			}
		}
	}
}

// anyProgram gives a right program of few instructions, which mostly begin with a Next.
func anyProgram(r *rand.Rand) api.Program {
	for {
		p := api.Program{}
		modes, n := 1+r.Intn(api.MaxModes), 3+r.Intn(18)
		for range modes {
			p.Entries = append(p.Entries, r.Intn(n))
		}
		for range 1 + r.Intn(6) {
			rule := api.Rule{Emit: r.Intn(2), Act: r.Intn(4)}
			if rule.Act == api.Go || rule.Act == api.Push {
				rule.Mode = r.Intn(modes)
			}
			p.Rules = append(p.Rules, rule)
		}
		for range n {
			p.Code = append(p.Code, anyIns(r, n, len(p.Rules)))
		}
		for _, entry := range p.Entries {
			if r.Intn(8) > 0 {
				p.Code[entry] = next
			}
		}
		if program.Right(p) {
			return p
		}
	}
}

func anyIns(r *rand.Rand, instructions, rules int) api.Ins {
	switch r.Intn(10) {
	case 0, 1, 2:
		return mark(r.Intn(rules))
	case 3, 4:
		return next
	case 5, 6, 7:
		a := []byte{0, 10, 'a', 'b', 'c'}[r.Intn(5)]
		return in(a, a+byte(r.Intn(3)), r.Intn(instructions))
	case 8:
		return jump(r.Intn(instructions))
	}
	return stop
}

func anyPieces(r *rand.Rand) []string {
	var pieces []string
	for range r.Intn(8) {
		piece := make([]byte, r.Intn(12))
		for i := range piece {
			piece[i] = "\x00\naabbcd\xff"[r.Intn(9)]
		}
		pieces = append(pieces, string(piece))
	}
	return pieces
}

// TestAnyProgram: programs and pieces of a die; each error must have come often enough to tell something.
func TestAnyProgram(t *testing.T) {
	r := rand.New(rand.NewSource(1))
	var seen [api.ErrPop + 1]int
	for range 30000 {
		p := anyProgram(r)
		most := 1 + r.Intn(6)
		if r.Intn(4) == 0 {
			most = 1 + r.Intn(api.MaxLook)
		}
		e := compare(t, p, most, r.Intn(api.MaxDepth+1), anyPieces(r))
		seen[e]++
	}
	for _, e := range []api.Errno{api.OK, api.ErrMatch, api.ErrToken, api.ErrDeep, api.ErrPop} {
		if seen[e] < 200 {
			t.Errorf("the answer %d came %d times: too seldom", e, seen[e])
		}
	}
}

// TestHeldIsOwn: what is held is no piece of the chunk that it came in.
func TestHeldIsOwn(t *testing.T) {
	r := Begin(far(), 4, 0)
	chunk := strings.Repeat("a\n", 100000) + "a"
	if _, e := r.Feed(chunk); e != api.OK || string(r.held) != "a" {
		t.Fatalf("Feed: %d, held %q", e, r.held)
	}
	if room := cap(r.held); room > 64 {
		t.Errorf("a byte is held in room for %d", room)
	}
}

// TestDropsAtError: with an error no byte is held any more, and the run stays at the token's beginning.
func TestDropsAtError(t *testing.T) {
	for _, c := range []struct {
		most  int
		input string
		e     api.Errno
		at    int
	}{
		{3, "a\nx" + strings.Repeat("a", 50), api.ErrMatch, 2},
		{3, "a\naabab", api.ErrToken, 2},
	} {
		t.Run(fmt.Sprint(c.e), func(t *testing.T) {
			r := Begin(far(), c.most, 0)
			_, e := r.Feed(c.input)
			if e != c.e || r.held != nil || r.State().At != c.at || r.State().Held != 0 {
				t.Errorf("%d, held %q, %+v", e, r.held, r.State())
			}
		})
	}
}
