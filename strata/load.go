package strata

import (
	"bytes"

	"strata/api"
	"strata/bracket"
	"strata/layer"
	"strata/mark"
	"strata/sum"
)

// maxWidth is how many bits a value can have.
const maxWidth = 64

// sizes is what a head says of an index.
type sizes struct {
	width int
	n     int
	m     int
}

// Load makes an index of bytes (P5).
func Load(data []byte) (*Index, api.Errno) {
	s, e := readHead(data)
	if e != api.OK {
		return nil, e
	}
	parts, e := s.cut(data[api.HeadBytes:])
	if e != api.OK {
		return nil, e
	}
	values := layer.Read(parts[0], s.width, s.n).Values()
	marks := mark.Read(parts[2], s.m, s.n).Places()
	// What was read is written again, and not looked over part by part: so
	// whatever no index has, in whichever part, can't come through.
	x, e := Build(values, marks)
	if e != api.OK || !bytes.Equal(x.Encode(), data) {
		return nil, api.ErrBits
	}
	return x, api.OK
}

// readHead gives what the head says, if that may be.
func readHead(data []byte) (sizes, api.Errno) {
	if len(data) < api.HeadBytes {
		return sizes{}, api.ErrShort
	}
	head, right := sum.Apart(data[:api.HeadBytes])
	if !bytes.HasPrefix(head, []byte(magic)) {
		return sizes{}, api.ErrMagic
	}
	head = head[len(magic):]
	if head[0] != api.Version {
		return sizes{}, api.ErrVersion
	}
	if !right {
		return sizes{}, api.ErrHead
	}
	s := sizes{width: int(head[1]), n: number(head[2], head[3]), m: number(head[4], head[5])}
	if s.width > maxWidth || s.n > api.MaxValues || s.m > s.n {
		return sizes{}, api.ErrBounds
	}
	return s, api.OK
}

func number(lower byte, higher byte) int {
	return int(lower) + int(higher)<<8
}

// cut gives the three parts that stand behind the head, without their sums.
func (s sizes) cut(data []byte) ([3][]byte, api.Errno) {
	var parts [3][]byte
	lengths := [3]int{layer.Size(s.width, s.n), bracket.Size(s.n), mark.Size(s.m, s.n)}
	whole := 0
	for _, length := range lengths {
		whole += length + sum.Size
	}
	if len(data) != whole {
		return parts, api.ErrLength
	}
	for i, length := range lengths {
		part, right := sum.Apart(data[:length+sum.Size])
		if !right {
			return parts, api.ErrSum
		}
		parts[i] = part
		data = data[length+sum.Size:]
	}
	return parts, api.OK
}
