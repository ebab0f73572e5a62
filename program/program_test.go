package program

import (
	"testing"

	"weir/api"
)

var (
	mark = api.Ins{Op: api.Mark}
	next = api.Ins{Op: api.Next}
	stop = api.Ins{Op: api.Stop}
)

func in(to int) api.Ins   { return api.Ins{Op: api.In, A: 97, B: 98, To: to} }
func jump(to int) api.Ins { return api.Ins{Op: api.Jump, To: to} }

func withCode(code ...api.Ins) api.Program {
	return api.Program{Entries: []int{0}, Rules: []api.Rule{{Emit: 1}}, Code: code}
}

// loopsByReach: whether an instruction can be reached from itself, no Next between: by widening
// "is followed by" till nothing new comes of it.
func loopsByReach(code []api.Ins) bool {
	n := len(code)
	reach := make([][]bool, n)
	for i, ins := range code {
		reach[i] = make([]bool, n)
		if ins.Op == api.Mark || ins.Op == api.In {
			reach[i][i+1] = true
		}
		if ins.Op == api.In || ins.Op == api.Jump {
			reach[i][ins.To] = true
		}
	}
	for k := range n {
		for i := range n {
			for j := range n {
				reach[i][j] = reach[i][j] || reach[i][k] && reach[k][j]
			}
		}
	}
	for i := range n {
		if reach[i][i] {
			return true
		}
	}
	return false
}

// TestEveryShortCode tries all code of up to 5 instructions, every To among them.
func TestEveryShortCode(t *testing.T) {
	for n := 1; n <= 5; n++ {
		kinds := []api.Ins{mark, next, stop}
		for to := range n {
			kinds = append(kinds, in(to), jump(to))
		}
		tried, right := 0, 0
		code := make([]api.Ins, n)
		var fill func(at int)
		fill = func(at int) {
			if at == n {
				last := code[n-1].Op
				want := (last == api.Jump || last == api.Stop) && !loopsByReach(code)
				if got := Right(withCode(code...)); got != want {
					t.Fatalf("Right(%+v) = %t, want %t", code, got, want)
				}
				tried++
				if want {
					right++
				}
				return
			}
			for _, ins := range kinds {
				if at == n-1 && ins.Op != api.Jump && ins.Op != api.Stop {
					if Right(withCode(append(code[:at:at], ins)...)) {
						t.Fatalf("right: %+v ends with %+v", code[:at], ins)
					}
					continue
				}
				code[at] = ins
				fill(at + 1)
			}
		}
		fill(0)
		if right == 0 || right == tried && n > 1 {
			t.Errorf("%d instructions: %d of %d right", n, right, tried)
		}
	}
}

func TestLongWays(t *testing.T) {
	n := api.MaxCode
	forward := make([]api.Ins, n)
	backward := make([]api.Ins, n)
	for i := range n {
		forward[i] = api.Ins{Op: api.In, B: 255, To: i + 1}
		backward[i] = jump(i - 1)
	}
	forward[n-1] = stop
	backward[0] = stop
	if !Right(withCode(forward...)) || !Right(withCode(backward...)) {
		t.Errorf("a way through %d instructions is not right", n)
	}
	forward[n-1] = jump(0)
	backward[0] = jump(n - 1)
	if Right(withCode(forward...)) || Right(withCode(backward...)) {
		t.Errorf("a way round through %d instructions is right", n)
	}
	forward[n/2] = next
	backward[n/2] = next
	backward[n/2+1] = stop
	if !Right(withCode(forward...)) || !Right(withCode(backward...)) {
		t.Errorf("a way round with one Next is not right")
	}
}

// TestUnreached: code that no entry leads to must be right too.
func TestUnreached(t *testing.T) {
	for _, p := range []api.Program{
		withCode(stop, jump(1)),
		withCode(next, stop, in(2), stop),
		withCode(stop, mark, jump(1), stop),
		withCode(stop, api.Ins{Op: api.Mark, A: 1}, stop),
	} {
		if Right(p) {
			t.Errorf("right: %+v", p)
		}
	}
}

// TestLoopAside: a way round is seen beside others that have a Next.
func TestLoopAside(t *testing.T) {
	if Right(withCode(next, in(0), in(4), jump(0), mark, in(2), jump(0))) {
		t.Error("a way round 2, 4, 5 is right")
	}
	if !Right(withCode(next, in(0), in(4), jump(0), mark, in(6), jump(0))) {
		t.Error("ways round that all pass 0 are not right")
	}
}

// TestFields sets each field of each kind to numbers at and beyond its edges.
func TestFields(t *testing.T) {
	least, most := -1<<63, 1<<63-1
	for _, c := range []struct {
		ins   api.Ins
		field string
		good  []int
		bad   []int
	}{
		{mark, "A", []int{0, 1, 2}, []int{-1, 3, 256, 65536, least, most}},
		{mark, "B", []int{0}, []int{-1, 1, 256, least, most}},
		{mark, "To", []int{0}, []int{-1, 1, 65536, least, most}},
		{next, "A", []int{0}, []int{-1, 1, 256, least, most}},
		{next, "B", []int{0}, []int{-1, 1, 256, least, most}},
		{next, "To", []int{0}, []int{-1, 1, 2, 65536, least, most}},
		{in(2), "A", []int{0, 97, 98}, []int{-1, 99, 256, least, most}},
		{in(2), "B", []int{97, 98, 255}, []int{-1, 0, 96, 256, least, most}},
		{in(2), "To", []int{1, 2}, []int{-1, 0, 3, 65536, 65538, least, most}},
		{jump(2), "A", []int{0}, []int{-1, 1, 256, least, most}},
		{jump(2), "B", []int{0}, []int{-1, 1, 256, least, most}},
		{jump(2), "To", []int{1, 2}, []int{-1, 0, 3, 65536, 65538, least, most}},
		{stop, "A", []int{0}, []int{-1, 1, 256, least, most}},
		{stop, "B", []int{0}, []int{-1, 1, 256, least, most}},
		{stop, "To", []int{0}, []int{-1, 1, 2, 65536, least, most}},
		{stop, "Op", []int{api.Mark, api.Next, api.Stop}, []int{least, -1, 0, 6, 256 + api.Stop, most}},
	} {
		try := func(n int, want bool) {
			ins := c.ins
			switch c.field {
			case "Op":
				ins.Op = n
			case "A":
				ins.A = n
			case "B":
				ins.B = n
			case "To":
				ins.To = n
			}
			p := withCode(ins, stop, stop)
			p.Rules = make([]api.Rule, 3)
			if got := Right(p); got != want {
				t.Errorf("first instruction %+v: right %t, want %t", ins, got, want)
			}
		}
		for _, n := range c.good {
			try(n, true)
		}
		for _, n := range c.bad {
			try(n, false)
		}
	}
}

// TestRules tries every rule with small numbers, and great ones.
func TestRules(t *testing.T) {
	numbers := []int{-1 << 63, -1, 0, 1, 2, 3, 4, 5, 256, 257, 1<<63 - 1}
	for modes := 1; modes <= api.MaxModes; modes++ {
		for _, emit := range numbers {
			for _, act := range numbers {
				for _, mode := range numbers {
					want := (emit == 0 || emit == 1) && ((act == api.Stay || act == api.Pop) && mode == 0 ||
						(act == api.Go || act == api.Push) && mode >= 0 && mode < modes)
					p := withCode(stop)
					p.Entries = make([]int, modes)
					p.Rules = append(p.Rules, api.Rule{Emit: emit, Act: act, Mode: mode})
					if got := Right(p); got != want {
						t.Errorf("%d modes, rule %+v: right %t, want %t", modes, p.Rules[1], got, want)
					}
				}
			}
		}
	}
}

func TestCounts(t *testing.T) {
	for n := range 300 {
		p := withCode(stop)
		p.Rules = make([]api.Rule, n)
		if got, want := Right(p), n >= 1 && n <= 16; got != want {
			t.Errorf("%d rules: right %t", n, got)
		}
		p = withCode(stop)
		p.Entries = make([]int, n)
		if got, want := Right(p), n >= 1 && n <= 4; got != want {
			t.Errorf("%d entries: right %t", n, got)
		}
	}
	for _, n := range []int{0, 1, 49999, 50000, 50001, 65535, 65536, 65537} {
		code := make([]api.Ins, n)
		for i := range code {
			code[i] = stop
		}
		if got, want := Right(withCode(code...)), n >= 1 && n <= 50000; got != want {
			t.Errorf("%d instructions: right %t", n, got)
		}
	}
}

func TestEntries(t *testing.T) {
	for _, entry := range []int{-1 << 63, -1, 0, 1, 2, 3, 65536, 1<<63 - 1} {
		for place := range api.MaxModes {
			p := withCode(stop, stop, stop)
			p.Entries = make([]int, api.MaxModes)
			p.Entries[place] = entry
			if got, want := Right(p), entry >= 0 && entry < 3; got != want {
				t.Errorf("entry %d of mode %d: right %t", entry, place, got)
			}
		}
	}
}
