// Package scan runs a right program over bytes as they come.
// That the program is right is the caller's to see to: every instruction, rule and mode
// that it names is there, and it comes upon a Next or a Stop before long.
package scan

import "weir/api"

// Run is a program on its way over an input.
type Run struct {
	program api.Program
	most    int
	depth   int

	at, line, col int
	mode          int
	stack         [api.MaxDepth]int
	stacked       int
	steps         int

	search search
	held   []byte // the input from at on; replaced, never written into
	ended  bool
	fault  api.Errno
}

// search is how far the seeking of one token has come. It outlasts a call,
// since an instruction that is done may not be done (and counted) again.
type search struct {
	ins    int // the instruction that comes next
	c      int
	looked int
	rule   int
	marked int // how many bytes; 0 while nothing is marked
}

// Begin gives a run of a right program at the beginning of its input.
func Begin(p api.Program, most int, depth int) Run {
	return Run{program: p, most: most, depth: depth, line: 1, col: 1, search: search{ins: p.Entries[0]}}
}

// Feed lets bytes join the input, which may go on (P6).
func (r *Run) Feed(chunk string) ([]api.Token, api.Errno) {
	e := r.closed()
	if e != api.OK {
		return nil, e
	}
	input := string(r.held) + chunk
	return r.advance(input)
}

// Finish ends the input (P7).
func (r *Run) Finish() ([]api.Token, api.Errno) {
	e := r.closed()
	if e != api.OK {
		return nil, e
	}
	r.ended = true
	input := string(r.held)
	return r.advance(input)
}

// State tells where the run is (P8).
func (r *Run) State() api.State {
	return api.State{
		At:    r.at,
		Line:  r.line,
		Col:   r.col,
		Mode:  r.mode,
		Depth: r.stacked,
		Held:  len(r.held),
		Steps: r.steps,
	}
}

// closed gives the error with which the run takes nothing any more.
func (r *Run) closed() api.Errno {
	if r.fault != api.OK {
		return r.fault
	}
	if r.ended {
		return api.ErrEnd
	}
	return api.OK
}

// advance seeks tokens in rest, the input from at on, as far as it can.
func (r *Run) advance(rest string) ([]api.Token, api.Errno) {
	tokens := []api.Token{}
	for len(rest) > 0 {
		stopped, e := r.seek(rest)
		if e == api.OK && !stopped {
			break
		}
		if e == api.OK {
			e = r.judge()
		}
		if e != api.OK {
			r.fault = e
			r.held = nil
			return tokens, e
		}
		token := r.token()
		rule := r.program.Rules[token.Rule]
		if rule.Emit == 1 {
			tokens = append(tokens, token)
		}
		r.pass(rest[:token.Len])
		r.act(rule)
		r.search = search{ins: r.program.Entries[r.mode]}
		rest = rest[token.Len:]
	}
	// A copy: a piece of a chunk would keep the whole chunk in memory.
	r.held = []byte(rest)
	return tokens, api.OK
}

// seek does instructions till it stops seeking (true) or waits (false).
func (r *Run) seek(rest string) (bool, api.Errno) {
	s := &r.search
	for s.ins < len(r.program.Code) {
		ins := r.program.Code[s.ins]
		spent := s.looked >= len(rest)
		if ins.Op == api.Next && spent && !r.ended {
			return false, api.OK
		}
		r.steps++
		s.ins++
		switch ins.Op {
		case api.Mark:
			if s.looked > 0 {
				s.rule = ins.A
				s.marked = s.looked
			}
		case api.Next:
			if spent {
				return true, api.OK
			}
			if s.looked >= r.most {
				return true, api.ErrToken
			}
			s.c = int(rest[s.looked])
			s.looked++
		case api.In:
			if s.c >= ins.A && s.c <= ins.B {
				s.ins = ins.To
			}
		case api.Jump:
			s.ins = ins.To
		case api.Stop:
			return true, api.OK
		}
	}
	return true, api.OK
}

// judge tells what is wrong with what is marked, once seeking has stopped.
func (r *Run) judge() api.Errno {
	if r.search.marked == 0 {
		return api.ErrMatch
	}
	switch r.program.Rules[r.search.rule].Act {
	case api.Push:
		if r.stacked >= r.depth {
			return api.ErrDeep
		}
	case api.Pop:
		if r.stacked == 0 {
			return api.ErrPop
		}
	}
	return api.OK
}

// token gives what is marked as a token.
func (r *Run) token() api.Token {
	return api.Token{Rule: r.search.rule, At: r.at, Len: r.search.marked, Line: r.line, Col: r.col}
}

// pass moves the run behind a token's bytes.
func (r *Run) pass(bytes string) {
	for i := 0; i < len(bytes); i++ {
		r.at++
		r.col++
		if bytes[i] == 10 {
			r.line++
			r.col = 1
		}
	}
}

// act does what a token's rule does to the mode; judge has seen to it that the stack has room for it.
func (r *Run) act(rule api.Rule) {
	switch rule.Act {
	case api.Go:
		r.mode = rule.Mode
	case api.Push:
		r.stack[r.stacked] = r.mode
		r.stacked++
		r.mode = rule.Mode
	case api.Pop:
		r.stacked--
		r.mode = r.stack[r.stacked]
	}
}
