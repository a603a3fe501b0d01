// Package bitrow: rows of bits, kept as the bytes that they are written as.
package bitrow

import "slices"

// Row is a row of bits. It does not change once it is made.
type Row struct {
	packed []byte
}

// Of makes a row of the bits, the first one numbered 0.
func Of(bits []bool) Row {
	packed := make([]byte, (len(bits)+7)/8)
	for k, bit := range bits {
		if bit {
			packed[k/8] |= 1 << (k % 8)
		}
	}
	return Row{packed: packed}
}

// Bytes gives the row as bytes: a copy, so that nobody can write into the row.
func (r Row) Bytes() []byte {
	return slices.Clone(r.packed)
}
