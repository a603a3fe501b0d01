// Package mark: the marked places, their low bits apart from their high ones.
package mark

import "strata/bitrow"

// Fit tells whether the marks are places of a row of n values, each above the one ahead of it.
func Fit(marks []int, n int) bool {
	least := 0
	for _, p := range marks {
		if p < least || p >= n {
			return false
		}
		least = p + 1
	}
	return true
}

// Row gives the bits of marks that fit a row of n values.
func Row(marks []int, n int) bitrow.Row {
	q := lowBits(len(marks), n)
	row := make([]bool, 0, len(marks)*q)
	for _, p := range marks {
		for bit := range q {
			row = append(row, p>>bit&1 == 1)
		}
	}
	high := make([]bool, len(marks)+n>>q+1)
	for i, p := range marks {
		high[p>>q+i] = true
	}
	return bitrow.Of(append(row, high...))
}

// lowBits gives q, the greatest number with 2^q times m at most n. It halves n
// and does not double m, so that no number runs over.
func lowBits(m int, n int) int {
	if m == 0 {
		return 0
	}
	q := 0
	for n>>(q+1) >= m {
		q++
	}
	return q
}
