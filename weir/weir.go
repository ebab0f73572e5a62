// Package weir: rules that cut bytes into tokens, and small programs that do it: see DOC.md.
package weir

import (
	"weir/api"
	"weir/code"
	"weir/images"
	"weir/kinds"
	"weir/program"
	"weir/rules"
	"weir/scan"
	"weir/sets"
)

// Scanner runs a program over bytes as they come.
type Scanner struct {
	run scan.Run
}

// Pack makes a program's image (P3).
func Pack(p api.Program) (string, api.Errno) {
	if !program.Right(p) {
		return "", api.ErrProgram
	}
	return images.Write(p), api.OK
}

// Unpack gives back an image's program (P4).
func Unpack(image string) (api.Program, api.Errno) {
	p, formed := images.Read(image)
	if !formed || !program.Right(p) {
		return api.Program{}, api.ErrImage
	}
	return p, api.OK
}

// Start makes a scanner of an image (P5).
func Start(image string, most int, depth int) (*Scanner, api.Errno) {
	p, e := Unpack(image)
	if e != api.OK {
		return nil, e
	}
	if most < 1 || most > api.MaxLook || depth < 0 || depth > api.MaxDepth {
		return nil, api.ErrArg
	}
	return &Scanner{run: scan.Begin(p, most, depth)}, api.OK
}

// Feed takes bytes, and tells the tokens that are sure (P6).
func (s *Scanner) Feed(chunk string) ([]api.Token, api.Errno) {
	return s.run.Feed(chunk)
}

// Finish ends the input, and tells the tokens that are left (P7).
func (s *Scanner) Finish() ([]api.Token, api.Errno) {
	return s.run.Finish()
}

// State tells where the scanner is (P8).
func (s *Scanner) State() api.State {
	return s.run.State()
}

// Check tells whether a text is rules (P10).
func Check(text string) (api.Errno, int) {
	_, _, e, number := read(text)
	return e, number
}

// Compile makes an image out of rules (P11 to P13).
func Compile(text string) (string, api.Errno) {
	told, found, e, _ := read(text)
	if e != api.OK {
		return "", e
	}
	actions := []api.Rule{}
	for _, line := range told.Lines {
		actions = append(actions, line.Rule)
	}
	modes := [][]kinds.Kind{}
	for _, mode := range found {
		modes = append(modes, kinds.Find(told.Lines, mode))
	}
	entries, ins := code.Lay(modes)
	return images.Write(api.Program{Entries: entries, Rules: actions, Code: ins}), api.OK
}

// read gives what a text tells and what sets.Find gives of each of its modes, or the error
// that it has and Check's number.
func read(text string) (rules.Text, [][]sets.Set, api.Errno, int) {
	told, e, number := rules.Read(text)
	if e != api.OK {
		return rules.Text{}, nil, e, number
	}
	found := [][]sets.Set{}
	for mode := 0; mode < told.Modes; mode++ {
		all, few := sets.Find(told, mode)
		if !few {
			return rules.Text{}, nil, api.ErrStates, mode
		}
		found = append(found, all)
	}
	return told, found, api.OK, 0
}
