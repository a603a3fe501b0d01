// Package bitrow: rows of bits that can tell where their ones and noughts stand.
package bitrow

import (
	"math/bits"
	"sort"
)

const wordBits = 64

// Row is a row of bits. It does not change once it is made.
type Row struct {
	words  []uint64 // one more than is full, so that the row's end is a place in a word, too
	ahead  []int    // how many ones stand ahead of each word: counted once, asked often
	length int
}

// Of makes a row of the bits, the first one numbered 0.
func Of(row []bool) Row {
	words := make([]uint64, len(row)/wordBits+1)
	for k, bit := range row {
		if bit {
			words[k/wordBits] |= 1 << (k % wordBits)
		}
	}
	return Row{words: words, ahead: counted(words), length: len(row)}
}

// Read makes a row of the length that is said of its bytes, of which there are
// Size. What is left of the last byte is not the row's, and is not kept.
func Read(data []byte, length int) Row {
	words := make([]uint64, length/wordBits+1)
	for k, b := range data {
		words[k/8] |= uint64(b) << (k % 8 * 8)
	}
	words[length/wordBits] &= 1<<(length%wordBits) - 1
	return Row{words: words, ahead: counted(words), length: length}
}

// Size tells how many bytes a row of that length has.
func Size(length int) int { return (length + 7) / 8 }

// counted gives how many ones stand ahead of each word.
func counted(words []uint64) []int {
	ahead := make([]int, len(words))
	ones := 0
	for w, word := range words {
		ahead[w] = ones
		ones += bits.OnesCount64(word)
	}
	return ahead
}

// Bytes gives the row as bytes, in new memory.
func (r Row) Bytes() []byte {
	out := make([]byte, Size(r.length))
	for k := range out {
		out[k] = byte(r.words[k/8] >> (k % 8 * 8))
	}
	return out
}

// Bit tells whether the bit at a place of the row is 1.
func (r Row) Bit(place int) bool {
	return r.words[place/wordBits]>>(place%wordBits)&1 == 1
}

// Ahead tells how many ones stand ahead of a place of the row, or of its end.
func (r Row) Ahead(place int) int {
	w := place / wordBits
	return r.ahead[w] + bits.OnesCount64(r.words[w]&(1<<(place%wordBits)-1))
}

// One tells where the one numbered k stands, from 0 on; if there are not so
// many, a place that is not in the row.
func (r Row) One(k int) int {
	w := sort.Search(len(r.words), func(w int) bool { return r.ahead[w] > k }) - 1
	return w*wordBits + oneOf(r.words[w], k-r.ahead[w])
}

// Zero tells where the nought numbered k stands, from 0 on; if there are not
// so many, a place that is not in the row.
func (r Row) Zero(k int) int {
	w := sort.Search(len(r.words), func(w int) bool { return r.zerosAhead(w) > k }) - 1
	return w*wordBits + oneOf(^r.words[w], k-r.zerosAhead(w))
}

func (r Row) zerosAhead(w int) int {
	return w*wordBits - r.ahead[w]
}

// oneOf tells where the one numbered k stands in a word; 64, if there is none.
func oneOf(word uint64, k int) int {
	for range k {
		word &= word - 1
	}
	return bits.TrailingZeros64(word)
}
