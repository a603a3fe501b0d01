package bitrow

import (
	"bytes"
	"testing"
)

func TestBytes(t *testing.T) {
	ninth := make([]bool, 9)
	ninth[8] = true
	for _, c := range []struct {
		bits []bool
		want []byte
	}{
		{nil, nil},
		{[]bool{false}, []byte{0}},
		{[]bool{true}, []byte{1}},
		{[]bool{true, false, true, true, false, false}, []byte{13}},
		{[]bool{false, false, false, false, false, false, false, true}, []byte{128}},
		{ninth, []byte{0, 1}},
	} {
		if got := Of(c.bits).Bytes(); !bytes.Equal(got, c.want) {
			t.Errorf("bytes of %v = %v, want %v", c.bits, got, c.want)
		}
	}
}

func TestBytesAreApart(t *testing.T) {
	bits := []bool{true, false, true}
	row := Of(bits)
	clear(bits)
	got := row.Bytes()
	if !bytes.Equal(got, []byte{5}) {
		t.Errorf("the bits that were handed in are kept: %v", got)
	}
	got[0] = 99
	if again := row.Bytes(); !bytes.Equal(again, []byte{5}) {
		t.Errorf("the bytes that came out are kept: %v", again)
	}
}
