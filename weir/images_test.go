package weir_test

import (
	"reflect"
	"strings"
	"testing"

	"weir/api"
	"weir/weir"
)

// The program of DOC.md's first example, and its image.
func example() api.Program {
	return api.Program{
		Entries: []int{0},
		Rules:   []api.Rule{{Emit: 1}},
		Code: []api.Ins{
			{Op: api.Next},
			{Op: api.In, A: 97, B: 98, To: 3},
			{Op: api.Stop},
			{Op: api.Mark},
			{Op: api.Stop},
		},
	}
}

const exampleImage = "\x57\x52\x01\x01\x05\x00\x00\x00\x01\x00\x00\x02\x00\x00\x00\x00\x03\x61\x62\x03\x00\x05\x00\x00\x00\x00\x01\x00\x00\x00\x00\x05\x00\x00\x00\x00"

// full: every bound of a program at its height.
func full() api.Program {
	p := api.Program{Entries: []int{0, 255, 256, api.MaxCode - 1}}
	for i := range api.MaxRules {
		r := api.Rule{Emit: i % 2, Act: i % 4}
		if r.Act == api.Go || r.Act == api.Push {
			r.Mode = i % 4
		}
		p.Rules = append(p.Rules, r)
	}
	for i := range api.MaxCode {
		p.Code = append(p.Code, [5]api.Ins{
			{Op: api.Mark, A: i % 16},
			{Op: api.Next},
			{Op: api.In, A: i % 256, B: 255, To: api.MaxCode - 1},
			{Op: api.Jump, To: i + 1},
			{Op: api.Stop},
		}[i%5])
	}
	return p
}

// mixed: each kind of instruction and of rule, two modes.
func mixed() api.Program {
	return api.Program{
		Entries: []int{0, 2},
		Rules:   []api.Rule{{}, {Emit: 1, Act: api.Go, Mode: 1}, {Act: api.Push}, {Emit: 1, Act: api.Pop}},
		Code: []api.Ins{
			{Op: api.Mark, A: 3},
			{Op: api.Next},
			{Op: api.In, A: 0, B: 255, To: 1},
			{Op: api.Jump, To: 5},
			{Op: api.Stop},
			{Op: api.Mark, A: 1},
			{Op: api.Stop},
		},
	}
}

func TestP3Example(t *testing.T) {
	if got, e := weir.Pack(example()); got != exampleImage || e != api.OK {
		t.Errorf("Pack = %x, %d, want %x", got, e, exampleImage)
	}
}

func TestP3ExampleOfCode(t *testing.T) {
	jump0 := api.Ins{Op: api.Jump}
	for _, c := range []struct {
		begin []api.Ins
		want  api.Errno
	}{
		{[]api.Ins{jump0}, api.ErrProgram},
		{[]api.Ins{{Op: api.In, B: 255}}, api.ErrProgram},
		{[]api.Ins{{Op: api.Mark}, jump0}, api.ErrProgram},
		{[]api.Ins{{Op: api.Next}, jump0}, api.OK},
	} {
		p := example()
		p.Code = append(c.begin, api.Ins{Op: api.Stop})
		s, e := weir.Pack(p)
		if e != c.want || (s == "") != (e != api.OK) {
			t.Errorf("Pack(%+v) = %x, %d, want %d", p, s, e, c.want)
		}
	}
}

func TestP3Wrong(t *testing.T) {
	for name, spoil := range map[string]func(p *api.Program){
		"no entry":            func(p *api.Program) { p.Entries = nil },
		"five entries":        func(p *api.Program) { p.Entries = make([]int, 5) },
		"entry above":         func(p *api.Program) { p.Entries[0] = 5 },
		"entry wraps to 0":    func(p *api.Program) { p.Entries[0] = 65536 },
		"no rule":             func(p *api.Program) { p.Rules = nil },
		"257 rules":           func(p *api.Program) { p.Rules = make([]api.Rule, 257) },
		"mode beyond":         func(p *api.Program) { p.Rules[0] = api.Rule{Act: api.Go, Mode: 1} },
		"mode of a Stay":      func(p *api.Program) { p.Entries = []int{0, 0}; p.Rules[0].Mode = 1 },
		"no code":             func(p *api.Program) { p.Code = nil },
		"falls off":           func(p *api.Program) { p.Code = p.Code[:4] },
		"rule beyond":         func(p *api.Program) { p.Code[3].A = 1 },
		"rule wraps to 0":     func(p *api.Program) { p.Code[3].A = 256 },
		"downward range":      func(p *api.Program) { p.Code[1].A = 99 },
		"byte beyond":         func(p *api.Program) { p.Code[1].B = 256 },
		"way out":             func(p *api.Program) { p.Code[1].To = 5 },
		"way wraps":           func(p *api.Program) { p.Code[1].To = 65536 + 3 },
		"way round":           func(p *api.Program) { p.Code[4] = api.Ins{Op: api.Jump, To: 3} },
		"op wraps":            func(p *api.Program) { p.Code[4].Op = 256 + api.Stop },
		"needless number":     func(p *api.Program) { p.Code[4].To = 65536 },
		"emit wraps":          func(p *api.Program) { p.Rules[0].Emit = 257 },
		"one rule too many":   func(p *api.Program) { p.Rules = make([]api.Rule, 17) },
		"unreached way round": func(p *api.Program) { p.Code[2] = api.Ins{Op: api.Jump, To: 2} },
	} {
		p := example()
		spoil(&p)
		if s, e := weir.Pack(p); s != "" || e != api.ErrProgram {
			t.Errorf("%s: Pack = %x, %d, want ErrProgram", name, s, e)
		}
	}
}

func TestP4GivesBack(t *testing.T) {
	for name, p := range map[string]api.Program{"example": example(), "mixed": mixed(), "full": full()} {
		s, e := weir.Pack(p)
		if e != api.OK {
			t.Fatalf("%s: Pack: %d", name, e)
		}
		if q, e := weir.Unpack(s); e != api.OK || !reflect.DeepEqual(p, q) {
			t.Errorf("%s: Unpack gives another program, %d", name, e)
		}
	}
}

func TestP3FullImage(t *testing.T) {
	s, e := weir.Pack(full())
	if e != api.OK || len(s) != 6+4*2+16*3+50000*5 {
		t.Fatalf("Pack: %d bytes, %d", len(s), e)
	}
	if head := s[:14]; head != "WR\x04\x10\x50\xc3"+"\x00\x00\xff\x00\x00\x01\x4f\xc3" {
		t.Errorf("it begins with %x", head)
	}
}

// checkUnpack: what Unpack takes is what Pack makes, and else it answers nothing but ErrImage.
func checkUnpack(t *testing.T, s string) api.Errno {
	t.Helper()
	p, e := weir.Unpack(s)
	switch e {
	case api.OK:
		if again, f := weir.Pack(p); again != s || f != api.OK {
			t.Fatalf("Unpack(%x) is OK, but Pack of its answer is %x, %d", s, again, f)
		}
	case api.ErrImage:
		if p.Entries != nil || p.Rules != nil || p.Code != nil {
			t.Fatalf("Unpack(%x) = %+v beside an error", s, p)
		}
	default:
		t.Fatalf("Unpack(%x): %d", s, e)
	}
	return e
}

// TestP4EveryByte puts every byte at every place of two images.
func TestP4EveryByte(t *testing.T) {
	for _, p := range []api.Program{example(), mixed()} {
		image, _ := weir.Pack(p)
		taken := 0
		for at := range len(image) {
			for b := range 256 {
				s := image[:at] + string([]byte{byte(b)}) + image[at+1:]
				if checkUnpack(t, s) == api.OK {
					taken++
				}
			}
		}
		if taken <= len(image) || taken > len(image)*256/4 {
			t.Errorf("%d images taken", taken)
		}
	}
}

func TestP4Cut(t *testing.T) {
	image, _ := weir.Pack(mixed())
	for n := range len(image) {
		for _, s := range []string{image[:n], image[n+1:], image[:n] + image[n+1:], image[:n] + "\x00" + image[n:]} {
			if s != image && weirTakes(s) {
				t.Errorf("Unpack takes %x", s)
			}
		}
	}
	for _, tail := range []string{"\x00", "\x05\x00\x00\x00\x00", image} {
		if weirTakes(image + tail) {
			t.Errorf("Unpack takes %x behind an image", tail)
		}
	}
}

func weirTakes(s string) bool {
	_, e := weir.Unpack(s)
	return e == api.OK
}

func TestP4Wrong(t *testing.T) {
	stop := "\x05\x00\x00\x00\x00"
	for _, s := range []string{
		"", "W", "WR", "RW", "WR\x00\x00\x00\x00", "WR\xff\xff\xff\xff",
		"WR\x01\x01\x00\x00" + "\x00\x00" + "\x00\x00\x00",
		"WR\x00\x01\x01\x00" + "\x00\x00\x00" + stop,
		"WR\x01\x00\x01\x00" + "\x00\x00" + stop,
		"WR\x05\x01\x01\x00" + strings.Repeat("\x00\x00", 5) + "\x00\x00\x00" + stop,
		"WR\x01\x11\x01\x00" + "\x00\x00" + strings.Repeat("\x00\x00\x00", 17) + stop,
		"WR\x01\x01\x51\xc3" + "\x00\x00" + "\x00\x00\x00" + strings.Repeat(stop, 50001),
		"WR\x01\x01\x01\x00" + "\x00\x00" + "\x00\x00\x00" + "\x04\x00\x00\x00\x00",
	} {
		if checkUnpack(t, s) != api.ErrImage {
			t.Errorf("Unpack takes %.40x", s)
		}
	}
}

// withRoom gives a program whose lists have spare room, and that room's lists.
func withRoom() (api.Program, api.Program) {
	p := example()
	whole := api.Program{
		Entries: append(p.Entries, 77, 78),
		Rules:   append(p.Rules, api.Rule{Emit: 77}, api.Rule{Act: 78}),
		Code:    append(p.Code, api.Ins{Op: 77}, api.Ins{Op: 78}),
	}
	p = api.Program{Entries: whole.Entries[:1], Rules: whole.Rules[:1], Code: whole.Code[:5]}
	return p, whole
}

func TestP2PackLeavesItsArgument(t *testing.T) {
	p, whole := withRoom()
	_, want := withRoom()
	weir.Pack(p)
	if !reflect.DeepEqual(whole, want) {
		t.Errorf("Pack wrote into %+v", whole)
	}
	bad, whole := withRoom()
	bad.Entries[0] = 9
	want.Entries[0] = 9
	weir.Pack(bad)
	if !reflect.DeepEqual(whole, want) {
		t.Errorf("Pack of a wrong program wrote into %+v", whole)
	}
}

// TestP2UnpackGivesFreshLists writes all over an answer, its spare room too.
func TestP2UnpackGivesFreshLists(t *testing.T) {
	kept, _ := weir.Unpack(exampleImage)
	for part := range 3 {
		p, _ := weir.Unpack(exampleImage)
		want := example()
		switch part {
		case 0:
			entries := p.Entries[:cap(p.Entries)]
			for i := range entries {
				entries[i] = 99
			}
			want.Entries = []int{99}
		case 1:
			rules := p.Rules[:cap(p.Rules)]
			for i := range rules {
				rules[i] = api.Rule{Emit: 99}
			}
			want.Rules = []api.Rule{{Emit: 99}}
		case 2:
			code := p.Code[:cap(p.Code)]
			for i := range code {
				code[i] = api.Ins{}
			}
			want.Code = make([]api.Ins, 5)
		}
		if !reflect.DeepEqual(p, want) {
			t.Errorf("writing into list %d changed another: %+v", part, p)
		}
	}
	if later, _ := weir.Unpack(exampleImage); !reflect.DeepEqual(later, example()) {
		t.Errorf("a later answer is changed: %+v", later)
	}
	if !reflect.DeepEqual(kept, example()) {
		t.Errorf("an earlier answer is changed: %+v", kept)
	}
}

func FuzzUnpack(f *testing.F) {
	for _, p := range []api.Program{example(), mixed()} {
		image, _ := weir.Pack(p)
		f.Add(image)
	}
	f.Add("WR\x01\x01\x01\x00")
	f.Fuzz(func(t *testing.T, s string) { checkUnpack(t, s) })
}
