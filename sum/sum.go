// Package sum: the sum that guards the bytes of an index.
package sum

import "bytes"

// halves holds what four halvings make of each lowest half byte. Half bytes,
// because a table for whole bytes would be larger than a package may hold.
var halves = [16]uint32{
	0x00000000, 0x1db71064, 0x3b6e20c8, 0x26d930ac,
	0x76dc4190, 0x6b6b51f4, 0x4db26158, 0x5005713c,
	0xedb88320, 0xf00f9344, 0xd6d6a3e8, 0xcb61b38c,
	0x9b64c2b0, 0x86d3d2d4, 0xa00ae278, 0xbdbdf21c,
}

// Size is how many bytes a sum has.
const Size = 4

// Of gives the sum of the bytes.
func Of(data []byte) uint32 {
	h := ^uint32(0)
	for _, b := range data {
		h ^= uint32(b)
		h = h>>4 ^ halves[h&15]
		h = h>>4 ^ halves[h&15]
	}
	return ^h
}

// AppendWith puts the data behind out, and the four bytes of its sum behind that.
func AppendWith(out []byte, data []byte) []byte {
	h := Of(data)
	out = append(out, data...)
	return append(out, byte(h), byte(h>>8), byte(h>>16), byte(h>>24))
}

// Apart gives the data of what AppendWith put together, and whether the sum
// behind it is right. There are Size bytes or more.
func Apart(both []byte) ([]byte, bool) {
	end := len(both) - Size
	return both[:end], bytes.Equal(AppendWith(nil, both[:end]), both)
}
