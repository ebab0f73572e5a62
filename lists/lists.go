// Package lists has what is done with lists of numbers that go upwards, none twice.
package lists

// Union gives a fresh list of the numbers that are in a or in b.
func Union(a []int, b []int) []int {
	both := make([]int, 0, len(a)+len(b))
	i, j := 0, 0
	for i < len(a) && j < len(b) {
		switch {
		case a[i] < b[j]:
			both = append(both, a[i])
			i++
		case a[i] > b[j]:
			both = append(both, b[j])
			j++
		default:
			both = append(both, a[i])
			i++
			j++
		}
	}
	both = append(both, a[i:]...)
	both = append(both, b[j:]...)
	return both
}

// Same tells whether a and b have the same numbers.
func Same(a []int, b []int) bool {
	if len(a) != len(b) {
		return false
	}
	for i, n := range a {
		if n != b[i] {
			return false
		}
	}
	return true
}

// Meet tells whether a number is in a and in b.
func Meet(a []int, b []int) bool {
	i, j := 0, 0
	for i < len(a) && j < len(b) {
		switch {
		case a[i] < b[j]:
			i++
		case a[i] > b[j]:
			j++
		default:
			return true
		}
	}
	return false
}
