package bracket

import (
	"bytes"
	"math/rand"
	"slices"
	"testing"

	"strata/bitrow"
)

func TestBytesExamples(t *testing.T) {
	for _, c := range []struct {
		values []uint64
		want   []byte
	}{
		{nil, nil},
		{[]uint64{9}, []byte{1}},
		{[]uint64{5, 2, 5}, []byte{13}},
		{[]uint64{4, 4, 4}, []byte{7}},
		{[]uint64{1, 2, 3}, []byte{7}},
		{[]uint64{3, 2, 1}, []byte{1 + 4 + 16}},
		{[]uint64{1, 2, 3, 0}, []byte{7 + 64}},
		{[]uint64{1 << 63, 1}, []byte{5}},
	} {
		if got := Of(c.values).Bytes(); !bytes.Equal(got, c.want) {
			t.Errorf("brackets of %v = %v, want %v", c.values, got, c.want)
		}
	}
}

// byPlaces sets the 1 of each value behind the noughts of all that are gone by
// then: those with a lesser value between them and it, or at it.
func byPlaces(values []uint64) []byte {
	row := make([]bool, 2*len(values))
	for i := range values {
		gone := 0
		for j := range i {
			if slices.Min(values[j+1:i+1]) < values[j] {
				gone++
			}
		}
		row[i+gone] = true
	}
	return bitrow.Of(row).Bytes()
}

func TestBytesDrawn(t *testing.T) {
	r := rand.New(rand.NewSource(4))
	for round := range 200 {
		values := make([]uint64, r.Intn(201))
		for i := range values {
			values[i] = r.Uint64() >> (63 - round%64)
		}
		was := slices.Clone(values)
		if got := Of(values).Bytes(); !bytes.Equal(got, byPlaces(values)) {
			t.Fatalf("brackets of %v = %v", values, got)
		}
		if !slices.Equal(values, was) {
			t.Fatalf("the values were written into: %v, not %v", values, was)
		}
	}
}

func TestLeast(t *testing.T) {
	r := rand.New(rand.NewSource(9))
	for round := range 128 {
		values := make([]uint64, 1+r.Intn(70))
		for i := range values {
			values[i] = r.Uint64() >> (63 - round%64)
		}
		b := Of(values)
		for l := range values {
			want := l
			for r := l + 1; r <= len(values); r++ {
				if values[r-1] < values[want] {
					want = r - 1
				}
				if got := b.Least(l, r); got != want {
					t.Fatalf("of %v the least in [%d, %d) is at %d, not %d", values, l, r, got, want)
				}
			}
		}
	}
}

func TestSize(t *testing.T) {
	for n := range 201 {
		if got, want := Size(n), len(Of(make([]uint64, n)).Bytes()); got != want {
			t.Errorf("the brackets of %d values have %d bytes, not %d", n, got, want)
		}
	}
}
