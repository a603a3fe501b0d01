package bitrow

import (
	"bytes"
	"math/rand"
	"testing"
)

func TestBytes(t *testing.T) {
	ninth := make([]bool, 9)
	ninth[8] = true
	for _, c := range []struct {
		bits []bool
		want []byte
	}{
		{nil, nil},
		{[]bool{false}, []byte{0}},
		{[]bool{true}, []byte{1}},
		{[]bool{true, false, true, true, false, false}, []byte{13}},
		{[]bool{false, false, false, false, false, false, false, true}, []byte{128}},
		{ninth, []byte{0, 1}},
	} {
		if got := Of(c.bits).Bytes(); !bytes.Equal(got, c.want) {
			t.Errorf("bytes of %v = %v, want %v", c.bits, got, c.want)
		}
	}
}

func TestBytesAreApart(t *testing.T) {
	bits := []bool{true, false, true}
	row := Of(bits)
	clear(bits)
	got := row.Bytes()
	if !bytes.Equal(got, []byte{5}) {
		t.Errorf("the bits that were handed in are kept: %v", got)
	}
	got[0] = 99
	if again := row.Bytes(); !bytes.Equal(again, []byte{5}) {
		t.Errorf("the bytes that came out are kept: %v", again)
	}
}

// rows gives rows of bits around the edges of words, from no ones to all.
func rows() [][]bool {
	r := rand.New(rand.NewSource(7))
	var out [][]bool
	for _, length := range []int{0, 1, 7, 8, 9, 63, 64, 65, 127, 128, 129, 200, 12800} {
		for _, often := range []int{0, 1, 8, 15, 16} {
			row := make([]bool, length)
			for k := range row {
				row[k] = r.Intn(16) < often
			}
			out = append(out, row)
		}
	}
	return out
}

func TestBytesDrawn(t *testing.T) {
	for _, bits := range rows() {
		want := make([]byte, (len(bits)+7)/8)
		for k, bit := range bits {
			if bit {
				want[k/8] |= 1 << (k % 8)
			}
		}
		if got := Of(bits).Bytes(); !bytes.Equal(got, want) {
			t.Errorf("bytes of %v = %v, want %v", bits, got, want)
		}
	}
}

// TestBitsAndPlaces asks rows that were made, and rows that were read.
func TestBitsAndPlaces(t *testing.T) {
	for _, bits := range rows() {
		made := Of(bits)
		asks(t, bits, made)
		asks(t, bits, Read(made.Bytes(), len(bits)))
	}
}

// asks: the row answers as the bits say.
func asks(t *testing.T, bits []bool, row Row) {
	t.Helper()
	ones, zeros := 0, 0
	for k, bit := range bits {
		if got := row.Bit(k); got != bit {
			t.Fatalf("%d bits: the bit %d is %v", len(bits), k, got)
		}
		if got := row.Ahead(k); got != ones {
			t.Fatalf("%d bits: %d ones ahead of %d, not %d", len(bits), got, k, ones)
		}
		if bit {
			if got := row.One(ones); got != k {
				t.Fatalf("%d bits: the one %d stands at %d, not %d", len(bits), ones, got, k)
			}
			ones++
		} else {
			if got := row.Zero(zeros); got != k {
				t.Fatalf("%d bits: the nought %d stands at %d, not %d", len(bits), zeros, got, k)
			}
			zeros++
		}
	}
	if got := row.Ahead(len(bits)); got != ones {
		t.Errorf("%d bits: %d ones in all, not %d", len(bits), got, ones)
	}
	if got := row.One(ones); got < len(bits) {
		t.Errorf("%d bits: a one at %d that is not there", len(bits), got)
	}
	if got := row.Zero(zeros); got < len(bits) {
		t.Errorf("%d bits: a nought at %d that is not there", len(bits), got)
	}
}

// TestReadLeavesWhatIsBehind: ones behind the row's end in its last byte are
// neither counted nor found nor given again.
func TestReadLeavesWhatIsBehind(t *testing.T) {
	for _, bits := range rows() {
		data := Of(bits).Bytes()
		want := bytes.Clone(data)
		if left := len(bits) % 8; left != 0 {
			data[len(data)-1] |= 255 << left
		}
		was := bytes.Clone(data)
		row := Read(data, len(bits))
		if !bytes.Equal(data, was) {
			t.Fatalf("%d bits: Read wrote into the bytes", len(bits))
		}
		clear(data)
		asks(t, bits, row)
		if got := row.Bytes(); !bytes.Equal(got, want) {
			t.Errorf("%d bits: read as %v, not %v", len(bits), got, want)
		}
	}
}

func TestSize(t *testing.T) {
	for _, c := range []struct{ length, want int }{{0, 0}, {1, 1}, {7, 1}, {8, 1}, {9, 2}, {16, 2}, {17, 3}, {12800, 1600}} {
		if got := Size(c.length); got != c.want {
			t.Errorf("%d bits have %d bytes, not %d", c.length, got, c.want)
		}
	}
}
