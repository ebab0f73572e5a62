// Package rules reads rules as text.
package rules

import "weir/api"

// Text is what rules tell. A place's number is its index in Places.
type Text struct {
	Modes  int
	Lines  []Line
	Places []Place
}

// Line is one of the rules.
type Line struct {
	Mode    int
	Rule    api.Rule
	Pattern Part
	down    bool // one of its ranges goes downwards
}

// reader goes over a text. Wherever it finds a byte that may not be there, it stays at it:
// some rules begin with all that it has passed, for every part that is begun can be ended.
type reader struct {
	text   string
	at     int
	places []Place
	down   bool // the line had a range that goes downwards
}

// end stands for the byte behind the text's last.
const end = -1

// Read gives what a text tells, or the error that it has, and the number that Check tells
// with it (P10), but for ErrStates.
func Read(text string) (Text, api.Errno, int) {
	// Tested ahead of all reading: the reader's recursion goes as deep as the text's groups.
	if len(text) > api.MaxText {
		return Text{}, api.ErrLong, 0
	}
	r := reader{text: text}
	lines, ok := r.lines()
	if !ok {
		return Text{}, api.ErrSyntax, r.at
	}
	for number, line := range lines {
		if line.down {
			return Text{}, api.ErrRange, number
		}
	}
	for number, line := range lines {
		if line.Pattern.Empty {
			return Text{}, api.ErrEmpty, number
		}
	}
	return Text{Modes: countModes(lines), Lines: lines, Places: r.places}, api.OK, 0
}

// countModes tells how many modes there are, up to the highest that is named.
func countModes(lines []Line) int {
	highest := 0
	for _, line := range lines {
		if line.Mode > highest {
			highest = line.Mode
		}
		if line.Rule.Mode > highest {
			highest = line.Rule.Mode
		}
	}
	return highest + 1
}

// peek gives the byte that comes next.
func (r *reader) peek() int {
	if r.at >= len(r.text) {
		return end
	}
	return int(r.text[r.at])
}

// take goes past the next byte, if it is b.
func (r *reader) take(b int) bool {
	if r.peek() != b {
		return false
	}
	r.at++
	return true
}

// lines reads the whole text; false, if it is no rules.
func (r *reader) lines() ([]Line, bool) {
	lines := []Line{}
	for {
		line, ok := r.line()
		if !ok {
			return nil, false
		}
		lines = append(lines, line)
		if r.at == len(r.text) {
			return lines, true
		}
		if len(lines) == api.MaxRules || !r.take('\n') {
			return nil, false
		}
	}
}

func (r *reader) line() (Line, bool) {
	r.down = false
	mode, ok := r.mode()
	if !ok || !r.take(' ') {
		return Line{}, false
	}
	pattern, ok := r.pattern()
	if !ok || !r.take(' ') {
		return Line{}, false
	}
	rule, ok := r.action()
	return Line{Mode: mode, Rule: rule, Pattern: pattern, down: r.down}, ok
}

func (r *reader) mode() (int, bool) {
	mode := r.peek() - 'a'
	if mode < 0 || mode >= api.MaxModes {
		return 0, false
	}
	r.at++
	return mode, true
}

func (r *reader) action() (api.Rule, bool) {
	rule := api.Rule{}
	switch r.peek() {
	case 'e':
		rule.Emit = 1
	case 's':
	default:
		return rule, false
	}
	r.at++
	switch r.peek() {
	case '<':
		r.at++
		rule.Act = api.Pop
		return rule, true
	case '>':
		rule.Act = api.Go
	case '+':
		rule.Act = api.Push
	default:
		return rule, true
	}
	r.at++
	mode, ok := r.mode()
	rule.Mode = mode
	return rule, ok
}
