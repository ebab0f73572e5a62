package lists

import (
	"reflect"
	"testing"
)

// subset lists the numbers whose bits are set in bits, upwards.
func subset(bits int) []int {
	list := []int{}
	for n := 0; n < 5; n++ {
		if bits>>n&1 == 1 {
			list = append(list, n)
		}
	}
	return list
}

func TestEveryPair(t *testing.T) {
	for a := 0; a < 32; a++ {
		for b := 0; b < 32; b++ {
			if got := Union(subset(a), subset(b)); !reflect.DeepEqual(got, subset(a|b)) {
				t.Errorf("Union(%v, %v) = %v", subset(a), subset(b), got)
			}
			if got := Same(subset(a), subset(b)); got != (a == b) {
				t.Errorf("Same(%v, %v) = %v", subset(a), subset(b), got)
			}
			if got := Meet(subset(a), subset(b)); got != (a&b != 0) {
				t.Errorf("Meet(%v, %v) = %v", subset(a), subset(b), got)
			}
		}
	}
}

func TestUnionIsFresh(t *testing.T) {
	room := [4]int{1, 2, 7, 8}
	for _, other := range [][]int{nil, {}, {5}} {
		for _, union := range [][]int{Union(room[:2], other), Union(other, room[:2])} {
			for i := range union {
				union[i] = 99
			}
			_ = append(union, 99)
		}
	}
	if room != [4]int{1, 2, 7, 8} {
		t.Errorf("the list became %v", room)
	}
}
