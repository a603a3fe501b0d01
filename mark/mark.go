// Package mark: the marked places, their low bits apart from their high ones.
package mark

import (
	"sort"

	"strata/bitrow"
)

// Marks are m marks: the lowest q bits of each, then a row in which the one of
// each mark has its other bits as noughts ahead of it.
type Marks struct {
	row bitrow.Row
	m   int
	q   int
}

// Fit tells whether the marks are places of a row of n values, each above the one ahead of it.
func Fit(marks []int, n int) bool {
	least := 0
	for _, p := range marks {
		if p < least || p >= n {
			return false
		}
		least = p + 1
	}
	return true
}

// Of keeps marks that fit a row of n values.
func Of(marks []int, n int) Marks {
	m := len(marks)
	q := lowBits(m, n)
	row := make([]bool, 0, m*q)
	for _, p := range marks {
		for bit := range q {
			row = append(row, p>>bit&1 == 1)
		}
	}
	high := make([]bool, highBits(m, n))
	for i, p := range marks {
		high[p>>q+i] = true
	}
	return Marks{row: bitrow.Of(append(row, high...)), m: m, q: q}
}

// Read makes m marks of their bytes, of which there are Size. Not all bits are
// those of marks: what Places gives need not fit, nor be written so.
func Read(data []byte, m int, n int) Marks {
	return Marks{row: bitrow.Read(data, length(m, n)), m: m, q: lowBits(m, n)}
}

// Size tells how many bytes m marks of a row of n values have.
func Size(m int, n int) int { return bitrow.Size(length(m, n)) }

// length tells how many bits the marks have in all.
func length(m int, n int) int {
	return m*lowBits(m, n) + highBits(m, n)
}

// highBits tells how many bits stand behind the lowest ones of all marks.
func highBits(m int, n int) int {
	return m + n>>lowBits(m, n) + 1
}

// lowBits gives q, the greatest number with 2^q times m at most n. It halves n
// and does not double m, so that no number runs over.
func lowBits(m int, n int) int {
	if m == 0 {
		return 0
	}
	q := 0
	for n>>(q+1) >= m {
		q++
	}
	return q
}

// Len tells how many marks there are.
func (s Marks) Len() int { return s.m }

// Bytes gives the marks as bytes.
func (s Marks) Bytes() []byte { return s.row.Bytes() }

// Places gives all marks, in their order.
func (s Marks) Places() []int {
	places := make([]int, s.m)
	for i := range places {
		places[i] = s.place(i)
	}
	return places
}

// Before gives the greatest mark that is p or less, and whether there is one.
func (s Marks) Before(p int) (int, bool) {
	return s.at(sort.Search(s.m, func(i int) bool { return s.place(i) > p }) - 1)
}

// After gives the least mark that is p or more, and whether there is one.
func (s Marks) After(p int) (int, bool) {
	return s.at(sort.Search(s.m, func(i int) bool { return s.place(i) >= p }))
}

// at gives the mark numbered i, and whether there is one.
func (s Marks) at(i int) (int, bool) {
	if i < 0 || i >= s.m {
		return 0, false
	}
	return s.place(i), true
}

// place gives the mark numbered i, of those that there are.
func (s Marks) place(i int) int {
	start := s.m * s.q
	high := s.row.One(s.row.Ahead(start)+i) - start - i
	p := high << s.q
	for bit := range s.q {
		if s.row.Bit(i*s.q + bit) {
			p |= 1 << bit
		}
	}
	return p
}
