package sum

import (
	"bytes"
	"hash/crc32"
	"math/rand"
	"testing"
)

// byBits is the sum as the document words it, bit by bit.
func byBits(data []byte) uint32 {
	h := uint32(1<<32 - 1)
	for _, b := range data {
		for k := range 8 {
			t := uint32(b)>>k&1 != h&1
			h /= 2
			if t {
				h ^= 0xedb88320
			}
		}
	}
	return ^h
}

func TestOfKnown(t *testing.T) {
	for _, c := range []struct {
		data string
		want uint32
	}{
		{"123456789", 0xcbf43926},
		{"", 0},
		{"\x00", 0xd202ef8d},
	} {
		if got := Of([]byte(c.data)); got != c.want {
			t.Errorf("sum of %q = %x, want %x", c.data, got, c.want)
		}
	}
	if got := Of(nil); got != 0 {
		t.Errorf("sum of no bytes = %x", got)
	}
}

func TestOfAgainstBits(t *testing.T) {
	for b := range 256 {
		one := []byte{byte(b)}
		if got, want := Of(one), byBits(one); got != want {
			t.Errorf("sum of byte %d = %x, want %x", b, got, want)
		}
	}
	r := rand.New(rand.NewSource(2))
	for range 200 {
		data := make([]byte, r.Intn(300))
		r.Read(data)
		got := Of(data)
		if want := byBits(data); got != want {
			t.Fatalf("sum of %v = %x, want %x", data, got, want)
		}
		if want := crc32.ChecksumIEEE(data); got != want {
			t.Fatalf("sum of %v = %x, the library says %x", data, got, want)
		}
	}
}

func TestAppendWith(t *testing.T) {
	got := AppendWith([]byte{7}, []byte("123456789"))
	want := []byte("\x07123456789\x26\x39\xf4\xcb")
	if !bytes.Equal(got, want) {
		t.Errorf("AppendWith = %v, want %v", got, want)
	}
	if got := AppendWith(nil, nil); !bytes.Equal(got, make([]byte, 4)) {
		t.Errorf("AppendWith of nothing = %v", got)
	}
}

func TestApart(t *testing.T) {
	for _, data := range []string{"", "\x00", "\xff\xff\xff\xff", "123456789"} {
		both := AppendWith(nil, []byte(data))
		if len(both) != len(data)+Size {
			t.Errorf("with its sum %q has %d bytes", data, len(both))
		}
		if got, right := Apart(both); !right || string(got) != data {
			t.Errorf("Apart of %v = %v, %v", both, got, right)
		}
		for bit := range 8 * len(both) {
			both[bit/8] ^= 1 << (bit % 8)
			was := bytes.Clone(both)
			if got, right := Apart(both); right || !bytes.Equal(got, was[:len(data)]) {
				t.Errorf("Apart of %v = %v, %v", was, got, right)
			}
			if !bytes.Equal(both, was) {
				t.Errorf("Apart made %v of %v", both, was)
			}
			both[bit/8] ^= 1 << (bit % 8)
		}
	}
	if _, right := Apart(make([]byte, Size+1)); right {
		t.Errorf("noughts are their own sum")
	}
}
