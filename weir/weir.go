// Package weir: rules that cut bytes into tokens, and small programs that do it: see DOC.md.
package weir

import (
	"weir/api"
	"weir/images"
	"weir/program"
	"weir/rules"
	"weir/scan"
	"weir/sets"
)

// Scanner runs a program over bytes as they come.
type Scanner struct {
	run scan.Run
}

// Pack makes a program's image (P3).
func Pack(p api.Program) (string, api.Errno) {
	if !program.Right(p) {
		return "", api.ErrProgram
	}
	return images.Write(p), api.OK
}

// Unpack gives back an image's program (P4).
func Unpack(image string) (api.Program, api.Errno) {
	p, formed := images.Read(image)
	if !formed || !program.Right(p) {
		return api.Program{}, api.ErrImage
	}
	return p, api.OK
}

// Start makes a scanner of an image (P5).
func Start(image string, most int, depth int) (*Scanner, api.Errno) {
	p, e := Unpack(image)
	if e != api.OK {
		return nil, e
	}
	if most < 1 || most > api.MaxLook || depth < 0 || depth > api.MaxDepth {
		return nil, api.ErrArg
	}
	return &Scanner{run: scan.Begin(p, most, depth)}, api.OK
}

// Feed takes bytes, and tells the tokens that are sure (P6).
func (s *Scanner) Feed(chunk string) ([]api.Token, api.Errno) {
	return s.run.Feed(chunk)
}

// Finish ends the input, and tells the tokens that are left (P7).
func (s *Scanner) Finish() ([]api.Token, api.Errno) {
	return s.run.Finish()
}

// State tells where the scanner is (P8).
func (s *Scanner) State() api.State {
	return s.run.State()
}

// Check tells whether a text is rules (P10).
func Check(text string) (api.Errno, int) {
	read, e, number := rules.Read(text)
	if e != api.OK {
		return e, number
	}
	for mode := 0; mode < read.Modes; mode++ {
		_, few := sets.Find(read, mode)
		if !few {
			return api.ErrStates, mode
		}
	}
	return api.OK, 0
}

// Compile makes an image out of rules (P11).
func Compile(text string) (string, api.Errno) { return "", api.OK }
