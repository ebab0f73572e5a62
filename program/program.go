// Package program tells whether a program is right.
package program

import "weir/api"

// none stands where an instruction has no follower.
const none = -1

// Right tells whether a program is right, as DOC.md has it under 'A program'.
func Right(p api.Program) bool {
	if !entriesRight(p.Entries, len(p.Code)) {
		return false
	}
	if !rulesRight(p.Rules, len(p.Entries)) {
		return false
	}
	if !codeRight(p.Code, len(p.Rules)) {
		return false
	}
	return !hasLoop(p.Code)
}

// below tells whether n is a number of one of count things that are numbered from 0 on.
func below(n int, count int) bool {
	return n >= 0 && n < count
}

func entriesRight(entries []int, instructions int) bool {
	if len(entries) < 1 || len(entries) > api.MaxModes {
		return false
	}
	for _, entry := range entries {
		if !below(entry, instructions) {
			return false
		}
	}
	return true
}

func rulesRight(rules []api.Rule, modes int) bool {
	if len(rules) < 1 || len(rules) > api.MaxRules {
		return false
	}
	for _, rule := range rules {
		if !ruleRight(rule, modes) {
			return false
		}
	}
	return true
}

func ruleRight(rule api.Rule, modes int) bool {
	if rule.Emit != 0 && rule.Emit != 1 {
		return false
	}
	switch rule.Act {
	case api.Stay, api.Pop:
		return rule.Mode == 0
	case api.Go, api.Push:
		return below(rule.Mode, modes)
	}
	return false
}

// codeRight tells whether each instruction is right by itself, and no way leads out of the code.
func codeRight(code []api.Ins, rules int) bool {
	if len(code) < 1 || len(code) > api.MaxCode {
		return false
	}
	for _, ins := range code {
		if !insRight(ins, rules, len(code)) {
			return false
		}
	}
	last := code[len(code)-1].Op
	return last == api.Jump || last == api.Stop
}

func insRight(ins api.Ins, rules int, instructions int) bool {
	switch ins.Op {
	case api.Mark:
		return below(ins.A, rules) && ins.B == 0 && ins.To == 0
	case api.Next, api.Stop:
		return ins.A == 0 && ins.B == 0 && ins.To == 0
	case api.In:
		return ins.A >= 0 && ins.A <= ins.B && ins.B <= 255 && below(ins.To, instructions)
	case api.Jump:
		return ins.A == 0 && ins.B == 0 && below(ins.To, instructions)
	}
	return false
}

// followers gives what follows an instruction. A Next is given none: a way round
// that has a Next is allowed, so no way through it needs to be looked into.
func followers(ins api.Ins, at int) [2]int {
	switch ins.Op {
	case api.Mark:
		return [2]int{at + 1, none}
	case api.In:
		return [2]int{at + 1, ins.To}
	case api.Jump:
		return [2]int{none, ins.To}
	}
	return [2]int{none, none}
}

// hasLoop tells whether there is a way round without a Next, in code that codeRight has passed.
// It takes away what follows nothing that is left: all goes, unless there is a way round.
// (No recursion: a way may be as long as the code.)
func hasLoop(code []api.Ins) bool {
	leads := countLeads(code)
	free := unled(leads)
	taken := 0
	for taken < len(free) {
		at := free[taken]
		taken++
		for _, follower := range followers(code[at], at) {
			if !below(follower, len(code)) {
				continue
			}
			leads[follower]--
			if leads[follower] == 0 {
				free = append(free, follower)
			}
		}
	}
	return taken < len(code)
}

// countLeads counts, for each instruction, how often it follows one.
func countLeads(code []api.Ins) []int {
	leads := make([]int, len(code))
	for at, ins := range code {
		for _, follower := range followers(ins, at) {
			if below(follower, len(code)) {
				leads[follower]++
			}
		}
	}
	return leads
}

// unled lists the instructions that follow none.
func unled(leads []int) []int {
	free := make([]int, 0, len(leads))
	for at, count := range leads {
		if count == 0 {
			free = append(free, at)
		}
	}
	return free
}
