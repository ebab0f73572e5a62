// Package images turns programs into bytes and back. Whether a program is right is not its business.
package images

import "weir/api"

// How many bytes each part of an image has.
const (
	headSize  = 6
	entrySize = 2
	ruleSize  = 3
	insSize   = 5
)

// Write gives the image of a right program.
func Write(p api.Program) string {
	bytes := make([]byte, 0, headSize+len(p.Entries)*entrySize+len(p.Rules)*ruleSize+len(p.Code)*insSize)
	bytes = append(bytes, 'W', 'R', byte(len(p.Entries)), byte(len(p.Rules)))
	bytes = append(bytes, byte(len(p.Code)), byte(len(p.Code)>>8))
	for _, entry := range p.Entries {
		bytes = append(bytes, byte(entry), byte(entry>>8))
	}
	for _, rule := range p.Rules {
		bytes = append(bytes, byte(rule.Emit), byte(rule.Act), byte(rule.Mode))
	}
	for _, ins := range p.Code {
		bytes = append(bytes, byte(ins.Op), byte(ins.A), byte(ins.B), byte(ins.To), byte(ins.To>>8))
	}
	return string(bytes)
}

// Read gives the program, right or not, that an image tells; false, if the bytes have not the form of one.
func Read(image string) (api.Program, bool) {
	if len(image) < headSize || image[0] != 'W' || image[1] != 'R' {
		return api.Program{}, false
	}
	rulesAt := headSize + int(image[2])*entrySize
	codeAt := rulesAt + int(image[3])*ruleSize
	end := codeAt + pair(image[4], image[5])*insSize
	if len(image) != end {
		return api.Program{}, false
	}
	entries := readEntries(image[headSize:rulesAt])
	rules := readRules(image[rulesAt:codeAt])
	code := readCode(image[codeAt:])
	return api.Program{Entries: entries, Rules: rules, Code: code}, true
}

// pair gives the number that two bytes tell, the low one first.
func pair(low byte, high byte) int {
	return int(low) + int(high)*256
}

func readEntries(bytes string) []int {
	entries := make([]int, 0, len(bytes)/entrySize)
	for at := 0; at+entrySize <= len(bytes); at += entrySize {
		entries = append(entries, pair(bytes[at], bytes[at+1]))
	}
	return entries
}

func readRules(bytes string) []api.Rule {
	rules := make([]api.Rule, 0, len(bytes)/ruleSize)
	for at := 0; at+ruleSize <= len(bytes); at += ruleSize {
		rule := api.Rule{Emit: int(bytes[at]), Act: int(bytes[at+1]), Mode: int(bytes[at+2])}
		rules = append(rules, rule)
	}
	return rules
}

func readCode(bytes string) []api.Ins {
	code := make([]api.Ins, 0, len(bytes)/insSize)
	for at := 0; at+insSize <= len(bytes); at += insSize {
		to := pair(bytes[at+3], bytes[at+4])
		ins := api.Ins{Op: int(bytes[at]), A: int(bytes[at+1]), B: int(bytes[at+2]), To: to}
		code = append(code, ins)
	}
	return code
}
