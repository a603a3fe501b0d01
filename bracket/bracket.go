// Package bracket: the brackets, which hold which values are less than those ahead of them.
package bracket

import "strata/bitrow"

// Brackets are the brackets of a row of values.
type Brackets struct {
	row bitrow.Row
}

// Of makes the brackets of the values.
func Of(values []uint64) Brackets {
	row := make([]bool, 0, 2*len(values))
	var stack []uint64
	for _, v := range values {
		// Equal values stay: so the first of the least is found, not the last.
		for len(stack) > 0 && stack[len(stack)-1] > v {
			stack = stack[:len(stack)-1]
			row = append(row, false)
		}
		stack = append(stack, v)
		row = append(row, true)
	}
	row = append(row, make([]bool, len(stack))...)
	return Brackets{row: bitrow.Of(row)}
}

// Size tells how many bytes the brackets of n values have.
func Size(n int) int { return bitrow.Size(2 * n) }

// Bytes gives the brackets as bytes.
func (b Brackets) Bytes() []byte { return b.row.Bytes() }

// Least tells the first place of the part [l, r) whose value is the least. It
// takes off the stack all of the part that lie there, being greater; what
// comes behind it lies higher, as it stays itself. So it is the last of those
// that have the fewest values under them.
func (b Brackets) Least(l int, r int) int {
	least, fewest := l, b.under(l)
	for i := l + 1; i < r; i++ {
		if u := b.under(i); u <= fewest {
			least, fewest = i, u
		}
	}
	return least
}

// under tells how many values lie on the stack when the one at the place i is
// put there: i have been put on, and the noughts ahead of its 1 are those that
// have been taken off.
func (b Brackets) under(i int) int {
	takenOff := b.row.One(i) - i
	return i - takenOff
}
