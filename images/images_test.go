package images

import (
	"strings"
	"testing"

	"weir/api"
)

func TestWrite(t *testing.T) {
	p := api.Program{
		Entries: []int{0x1234, 7},
		Rules:   []api.Rule{{Emit: 1, Act: api.Push, Mode: 1}},
		Code:    []api.Ins{{Op: api.In, A: 9, B: 255, To: 0xc34f}, {Op: api.Stop}},
	}
	want := "WR\x02\x01\x02\x00" + "\x34\x12\x07\x00" + "\x01\x02\x01" + "\x03\x09\xff\x4f\xc3" + "\x05\x00\x00\x00\x00"
	if got := Write(p); got != want {
		t.Errorf("Write(%+v) = %x, want %x", p, got, want)
	}
}

// TestLengths: the head tells how many bytes an image has, neither more nor fewer.
func TestLengths(t *testing.T) {
	for entries := range 6 {
		for rules := range 6 {
			for code := range 6 {
				head := "WR" + string([]byte{byte(entries), byte(rules), byte(code), 0})
				right := 6 + 2*entries + 3*rules + 5*code
				for n := range 80 {
					s := head + strings.Repeat("\x07", n)
					p, formed := Read(s)
					if formed != (len(s) == right) {
						t.Fatalf("Read(%x) formed %t", s, formed)
					}
					if formed && (len(p.Entries) != entries || len(p.Rules) != rules || len(p.Code) != code) {
						t.Fatalf("Read(%x) = %+v", s, p)
					}
					if formed && Write(p) != s {
						t.Fatalf("Write(Read(%x)) = %x", s, Write(p))
					}
				}
			}
		}
	}
}

func TestHighByteOfTheCount(t *testing.T) {
	body := strings.Repeat("\x05\x00\x00\x00\x00", 0x0102)
	if p, formed := Read("WR\x00\x00\x02\x01" + body); !formed || len(p.Code) != 0x0102 {
		t.Errorf("258 instructions: %d, %t", len(p.Code), formed)
	}
	if _, formed := Read("WR\x00\x00\x01\x02" + body); formed {
		t.Error("the high byte comes first")
	}
}
