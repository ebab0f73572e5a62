package weir_test

import (
	"fmt"
	"sort"
	"strings"

	"weir/api"
)

// What rules match, told a second time: what is left of a pattern behind a byte is a list of patterns (its
// rests), and a word is matched if one of the rests behind its last byte matches the empty word.

// exp is a pattern: op 'e' is the empty word alone, 'p' one of the bytes takes, 's' a and then b, 'b' a or b, '*' any number of a.
type exp struct {
	op    byte
	a, b  *exp
	takes string
}

var emptyWord = &exp{op: 'e'}

func inTurn(a, b *exp) *exp {
	if a.op == 'e' {
		return b
	}
	return &exp{op: 's', a: a, b: b}
}

func (x *exp) String() string {
	switch x.op {
	case 'e':
		return "e"
	case 'p':
		return fmt.Sprintf("%x.", x.takes)
	case '*':
		return "*" + x.a.String()
	}
	return string(x.op) + x.a.String() + x.b.String()
}

func (x *exp) matchesEmpty() bool {
	switch x.op {
	case 's':
		return x.a.matchesEmpty() && x.b.matchesEmpty()
	case 'b':
		return x.a.matchesEmpty() || x.b.matchesEmpty()
	}
	return x.op != 'p'
}

func (x *exp) rests(c byte) []*exp {
	var rests []*exp
	switch x.op {
	case 'p':
		if strings.IndexByte(x.takes, c) >= 0 {
			rests = append(rests, emptyWord)
		}
	case 'b':
		rests = append(x.a.rests(c), x.b.rests(c)...)
	case '*':
		for _, rest := range x.a.rests(c) {
			rests = append(rests, inTurn(rest, x))
		}
	case 's':
		for _, rest := range x.a.rests(c) {
			rests = append(rests, inTurn(rest, x.b))
		}
		if x.a.matchesEmpty() {
			rests = append(rests, x.b.rests(c)...)
		}
	}
	return rests
}

// places notes the bytes that each place takes.
func (x *exp) places(all map[string]bool) {
	switch x.op {
	case 'p':
		all[x.takes] = true
	case '*':
		x.a.places(all)
	case 's', 'b':
		x.a.places(all)
		x.b.places(all)
	}
}

// parse reads a pattern of which Check has found that it is one.
type parse struct{ rest string }

func (p *parse) eat() byte {
	c := p.rest[0]
	p.rest = p.rest[1:]
	return c
}

func (p *parse) at(signs string) bool {
	return p.rest != "" && strings.IndexByte(signs, p.rest[0]) >= 0
}

func (p *parse) pattern() *exp {
	x := p.branch()
	for p.at("|") {
		p.eat()
		x = &exp{op: 'b', a: x, b: p.branch()}
	}
	return x
}

func (p *parse) branch() *exp {
	x := p.piece()
	if p.rest == "" || p.at("|)") {
		return x
	}
	return &exp{op: 's', a: x, b: p.branch()}
}

func (p *parse) piece() *exp {
	x := p.atom()
	for p.at("*+?") {
		switch p.eat() {
		case '*':
			x = &exp{op: '*', a: x}
		case '+':
			x = &exp{op: 's', a: x, b: &exp{op: '*', a: x}}
		case '?':
			x = &exp{op: 'b', a: x, b: emptyWord}
		}
	}
	return x
}

func (p *parse) atom() *exp {
	switch {
	case p.at("("):
		p.eat()
		x := p.pattern()
		p.eat()
		return x
	case p.at("["):
		p.eat()
		return p.class()
	case p.at("."):
		p.eat()
		return &exp{op: 'p', takes: without("\n")}
	}
	return &exp{op: 'p', takes: string([]byte{p.sign()})}
}

func (p *parse) sign() byte {
	c := p.eat()
	if c != '\\' {
		return c
	}
	c = p.eat()
	switch c {
	case 'n':
		c = '\n'
	case 's':
		c = ' '
	}
	return c
}

func (p *parse) class() *exp {
	other := p.at("^")
	if other {
		p.eat()
	}
	takes := ""
	for !p.at("]") {
		low := p.sign()
		high := low
		if p.at("-") {
			p.eat()
			high = p.sign()
		}
		for c := int(low); c <= int(high); c++ {
			takes += string([]byte{byte(c)})
		}
	}
	p.eat()
	rest := without(takes)
	if !other {
		rest = without(rest)
	}
	return &exp{op: 'p', takes: rest}
}

// words stands for all words behind which the same rests are left, of all rules of a mode.
type words struct {
	rule   int // the first rule that matches them, or -1
	longer [256]*words
	goOn   bool // they can be gone on with
}

// reading is what the model makes of a text.
type reading struct {
	rules []api.Rule
	modes [][]*words // of each mode, the empty word's first
}

func readText(text string) reading {
	r := reading{}
	patterns := [4]map[int]*exp{{}, {}, {}, {}}
	highest := 0
	for number, line := range strings.Split(text, "\n") {
		parts := strings.Split(line, " ")
		mode, p, action := int(parts[0][0]-'a'), parse{parts[1]}, parts[2]
		patterns[mode][number] = p.pattern()
		rule := api.Rule{Emit: strings.Count(action[:1], "e")}
		if len(action) > 1 {
			rule.Act = 1 + strings.IndexByte(">+<", action[1])
		}
		if len(action) > 2 {
			rule.Mode = int(action[2] - 'a')
		}
		r.rules = append(r.rules, rule)
		highest = max(highest, mode, rule.Mode)
	}
	for mode := range highest + 1 {
		r.modes = append(r.modes, allWords(patterns[mode]))
	}
	return r
}

// rest is what is left of a rule.
type rest struct {
	rule int
	x    *exp
}

// once gives the rests, none twice, and a text that is the same for the same rests.
func once(rests []rest) ([]rest, string) {
	seen, texts, some := map[string]bool{}, []string{}, []rest{}
	for _, r := range rests {
		text := fmt.Sprint(r.rule, " ", r.x)
		if !seen[text] {
			seen[text] = true
			texts = append(texts, text)
			some = append(some, r)
		}
	}
	sort.Strings(texts)
	return some, strings.Join(texts, ",")
}

func matched(rests []rest) int {
	first := -1
	for _, r := range rests {
		if r.x.matchesEmpty() && (first < 0 || r.rule < first) {
			first = r.rule
		}
	}
	return first
}

func restsOf(left []rest, c byte) []rest {
	rests := []rest{}
	for _, r := range left {
		for _, x := range r.x.rests(c) {
			rests = append(rests, rest{r.rule, x})
		}
	}
	return rests
}

// allWords finds all there are of a mode with these patterns.
func allWords(patterns map[int]*exp) []*words {
	begin, places := []rest{}, map[string]bool{}
	for number, x := range patterns {
		begin = append(begin, rest{number, x})
		x.places(places)
	}
	of := sameBytes(places)
	begin, text := once(begin)
	all, left := []*words{{rule: -1}}, [][]rest{begin}
	known := map[string]*words{text: all[0]}
	for at := 0; at < len(all); at++ {
		for c := range 256 {
			if of[c] != c {
				all[at].longer[c] = all[at].longer[of[c]]
				continue
			}
			rests, text := once(restsOf(left[at], byte(c)))
			if known[text] == nil {
				known[text] = &words{rule: matched(rests)}
				all, left = append(all, known[text]), append(left, rests)
			}
			all[at].longer[c] = known[text]
		}
	}
	noteGoOn(all)
	return all
}

// sameBytes gives, for each byte, the first one that all places take or leave as they do it.
func sameBytes(places map[string]bool) [256]int {
	list := []string{}
	for takes := range places {
		list = append(list, takes)
	}
	of, firsts := [256]int{}, map[string]int{}
	for c := range 256 {
		who := ""
		for number, takes := range list {
			if strings.IndexByte(takes, byte(c)) >= 0 {
				who += fmt.Sprint(number, " ")
			}
		}
		if _, known := firsts[who]; !known {
			firsts[who] = c
		}
		of[c] = firsts[who]
	}
	return of
}

func noteGoOn(all []*words) {
	for changed := true; changed; {
		changed = false
		for _, w := range all {
			for _, longer := range w.longer {
				if !w.goOn && (longer.rule >= 0 || longer.goOn) {
					w.goOn = true
					changed = true
				}
			}
		}
	}
}

// countKinds tells how many kinds of words that are alike can be gone on with: two are not alike if they are not
// matched alike, or if a byte makes ones of them that are not alike.
func countKinds(all []*words) int {
	apart := map[[2]*words]bool{}
	differ := func(a, b *words) bool {
		if a.rule != b.rule {
			return true
		}
		for c := range 256 {
			if apart[[2]*words{a.longer[c], b.longer[c]}] {
				return true
			}
		}
		return false
	}
	for changed := true; changed; {
		changed = false
		for _, a := range all {
			for _, b := range all {
				if pair := [2]*words{a, b}; !apart[pair] && differ(a, b) {
					apart[pair] = true
					changed = true
				}
			}
		}
	}
	kinds := []*words{}
	for _, w := range all {
		known := false
		for _, other := range kinds {
			known = known || !apart[[2]*words{w, other}]
		}
		if w.goOn && !known {
			kinds = append(kinds, w)
		}
	}
	return len(kinds)
}

// scan does what DOC.md says under 'Scanning', by P12, over all of an input. (It counts no steps.)
func (r reading) scan(most, depth int, input string, ended bool) outcome {
	o, stack := outcome{}, []int{}
	for o.e == api.OK && o.state.At < len(input) {
		rule, n, e, waits := r.seek(most, o.state.Mode, input[o.state.At:], ended)
		if waits {
			break
		}
		o.e = e
		if e != api.OK {
			break
		}
		action := r.rules[rule]
		if action.Act == api.Push && len(stack) == depth {
			o.e = api.ErrDeep
			break
		}
		if action.Act == api.Pop && len(stack) == 0 {
			o.e = api.ErrPop
			break
		}
		line, col := lineAndCol(input[:o.state.At])
		if action.Emit == 1 {
			o.tokens = append(o.tokens, tok(rule, o.state.At, n, line, col))
		}
		o.state.At += n
		switch action.Act {
		case api.Go:
			o.state.Mode = action.Mode
		case api.Push:
			stack = append(stack, o.state.Mode)
			o.state.Mode = action.Mode
		case api.Pop:
			o.state.Mode = stack[len(stack)-1]
			stack = stack[:len(stack)-1]
		}
	}
	o.state.Line, o.state.Col = lineAndCol(input[:o.state.At])
	o.state.Depth = len(stack)
	if o.e == api.OK {
		o.state.Held = len(input) - o.state.At
	}
	return o
}

func lineAndCol(before string) (int, int) {
	return 1 + strings.Count(before, "\n"), len(before) - strings.LastIndex(before, "\n")
}

func (r reading) seek(most, mode int, input string, ended bool) (rule, n int, e api.Errno, waits bool) {
	rule = -1
	w := r.modes[mode][0]
	for looked := 0; w.goOn; looked++ {
		if looked == len(input) {
			if !ended {
				return 0, 0, api.OK, true
			}
			break
		}
		if looked == most {
			return 0, 0, api.ErrToken, false
		}
		w = w.longer[input[looked]]
		if w.rule >= 0 {
			rule, n = w.rule, looked+1
		}
	}
	if rule < 0 {
		return 0, 0, api.ErrMatch, false
	}
	return rule, n, api.OK, false
}
