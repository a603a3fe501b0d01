package layer

import (
	"bytes"
	"math"
	"math/bits"
	"math/rand"
	"slices"
	"sort"
	"testing"

	"strata/bitrow"
)

func TestWidth(t *testing.T) {
	for _, c := range []struct {
		values []uint64
		want   int
	}{
		{nil, 0},
		{[]uint64{0, 0}, 0},
		{[]uint64{0, 1}, 1},
		{[]uint64{5, 2, 5}, 3},
		{[]uint64{7, 8, 1}, 4},
		{[]uint64{1 << 62}, 63},
		{[]uint64{1 << 63, 1}, 64},
		{[]uint64{math.MaxUint64}, 64},
	} {
		if got := Of(c.values).Width(); got != c.want {
			t.Errorf("the width of %v = %d, want %d", c.values, got, c.want)
		}
	}
}

func TestBytesExamples(t *testing.T) {
	for _, c := range []struct {
		values []uint64
		want   []byte
	}{
		{nil, nil},
		{[]uint64{0, 0, 0}, nil},
		{[]uint64{5, 2, 5}, []byte{205, 0}},
		{[]uint64{1 << 63}, []byte{1, 0, 0, 0, 0, 0, 0, 0}},
		{[]uint64{1}, []byte{1}},
	} {
		if got := Of(c.values).Bytes(); !bytes.Equal(got, c.want) {
			t.Errorf("layers of %v = %v, want %v", c.values, got, c.want)
		}
	}
}

// bySorting makes each layer on its own: the order at a bit is the one that the
// bits above it, read from the lowest to the highest, sort the values into.
func bySorting(values []uint64, width int) []byte {
	var row []bool
	for bit := width - 1; bit >= 0; bit-- {
		order := slices.Clone(values)
		sort.SliceStable(order, func(a, b int) bool {
			return bits.Reverse64(order[a]>>(bit+1)) < bits.Reverse64(order[b]>>(bit+1))
		})
		for _, v := range order {
			row = append(row, v&(1<<bit) != 0)
		}
	}
	return bitrow.Of(row).Bytes()
}

func TestBytesDrawn(t *testing.T) {
	r := rand.New(rand.NewSource(3))
	for round := range 260 {
		values := make([]uint64, r.Intn(201))
		for i := range values {
			values[i] = r.Uint64() >> (round % 65)
		}
		was := slices.Clone(values)
		y := Of(values)
		if got := y.Bytes(); !bytes.Equal(got, bySorting(values, y.Width())) {
			t.Fatalf("layers of %v = %v", values, got)
		}
		if !slices.Equal(values, was) {
			t.Fatalf("the values were written into: %v, not %v", values, was)
		}
	}
}

func TestRead(t *testing.T) {
	r := rand.New(rand.NewSource(22))
	for round := range 130 {
		values := make([]uint64, r.Intn(201))
		for i := range values {
			values[i] = r.Uint64() >> (round % 65)
		}
		y := Of(values)
		data := y.Bytes()
		if got := Size(y.Width(), y.Len()); got != len(data) {
			t.Fatalf("%d layers of %d have %d bytes, not %d", y.Width(), y.Len(), got, len(data))
		}
		z := Read(data, y.Width(), y.Len())
		clear(data)
		if z.Width() != y.Width() || z.Len() != y.Len() || !bytes.Equal(z.Bytes(), y.Bytes()) {
			t.Fatalf("layers of %v are read as %v", values, z)
		}
		if got := z.Values(); !slices.Equal(got, values) {
			t.Fatalf("layers of %v have the values %v", values, got)
		}
	}
}

// TestReadAnyBits: the layers of all that they can be, of which none is
// another's, though the values may be narrower than there are layers.
func TestReadAnyBits(t *testing.T) {
	const width, n = 3, 4
	seen := map[[n]uint64]int{}
	for bits := range 1 << (width * n) {
		values := Read([]byte{byte(bits), byte(bits >> 8)}, width, n).Values()
		if slices.Max(values) >= 1<<width {
			t.Fatalf("the bits %b have the values %v", bits, values)
		}
		seen[[n]uint64(values)]++
	}
	if len(seen) != 1<<(width*n) {
		t.Errorf("of all bits come %d rows of values", len(seen))
	}
	if got := Read(nil, 64, 0).Values(); len(got) != 0 {
		t.Errorf("layers of no values have %v", got)
	}
}
