package code

import (
	"reflect"
	"testing"

	"weir/api"
	"weir/kinds"
	"weir/program"
)

var next, stop = api.Ins{Op: api.Next}, api.Ins{Op: api.Stop}

func mark(rule int) api.Ins { return api.Ins{Op: api.Mark, A: rule} }

func in(a, b, to int) api.Ins { return api.Ins{Op: api.In, A: a, B: b, To: to} }

// row: the bytes from low to high lead to the kind.
type row struct{ low, high, kind int }

func kind(rule int, rows ...row) kinds.Kind {
	k := kinds.Kind{Rule: rule}
	for _, r := range rows {
		for b := r.low; b <= r.high; b++ {
			k.Longer[b] = r.kind
		}
	}
	return k
}

var lost = kind(kinds.None)

func TestLay(t *testing.T) {
	for _, c := range []struct {
		modes   [][]kinds.Kind
		entries []int
		code    []api.Ins
	}{
		{[][]kinds.Kind{{lost}}, []int{0}, []api.Ins{stop}},
		{[][]kinds.Kind{{lost}, {lost}}, []int{0, 1}, []api.Ins{stop, stop}},
		{
			[][]kinds.Kind{{lost, kind(kinds.None, row{97, 98, 2}), kind(0)}},
			[]int{0},
			[]api.Ins{next, in(97, 98, 3), stop, mark(0), stop},
		},
		// All bytes, the first and the last alone, and rows side by side.
		{
			[][]kinds.Kind{{lost, kind(kinds.None, row{0, 255, 1})}},
			[]int{0},
			[]api.Ins{next, in(0, 255, 0), stop},
		},
		{
			[][]kinds.Kind{{lost, kind(kinds.None, row{0, 0, 2}, row{255, 255, 2}), kind(3, row{0, 9, 1}, row{10, 10, 2}, row{11, 20, 1})}},
			[]int{0},
			[]api.Ins{next, in(0, 0, 4), in(255, 255, 4), stop, mark(3), next, in(0, 9, 0), in(10, 10, 4), in(11, 20, 0), stop},
		},
		// Each mode has its own code.
		{
			[][]kinds.Kind{{lost, kind(kinds.None, row{5, 5, 2}), kind(0)}, {lost}, {lost, kind(kinds.None, row{6, 6, 2}), kind(1, row{7, 7, 1})}},
			[]int{0, 5, 6},
			[]api.Ins{next, in(5, 5, 3), stop, mark(0), stop, stop, next, in(6, 6, 9), stop, mark(1), next, in(7, 7, 6), stop},
		},
	} {
		entries, code := Lay(c.modes)
		if !reflect.DeepEqual(entries, c.entries) || !reflect.DeepEqual(code, c.code) {
			t.Errorf("Lay(..) = %v, %v, want %v, %v", entries, code, c.entries, c.code)
		}
	}
}

// TestMost: the most that sets can make, every byte leading elsewhere than its neighbours, is a right program.
func TestMost(t *testing.T) {
	mode := []kinds.Kind{lost}
	for number := 1; number <= api.MaxSets+1; number++ {
		k := kind(number % api.MaxRules)
		for b := range k.Longer {
			k.Longer[b] = 1 + (b+number)%(api.MaxSets+1)
		}
		mode = append(mode, k)
	}
	modes := [][]kinds.Kind{}
	for range api.MaxModes {
		modes = append(modes, mode)
	}
	entries, code := Lay(modes)
	p := api.Program{Entries: entries, Rules: make([]api.Rule, api.MaxRules), Code: code}
	if !program.Right(p) || len(code) != 4*41*259 {
		t.Errorf("%d instructions, entries %v", len(code), entries)
	}
}
