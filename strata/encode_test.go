package strata

import (
	"bytes"
	"hash/crc32"
	"math"
	"math/rand"
	"slices"
	"testing"

	"strata/api"
)

// summed gives bytes and their sum behind them.
func summed(l ...byte) []byte {
	h := crc32.ChecksumIEEE(l)
	return append(slices.Clone(l), byte(h), byte(h>>8), byte(h>>16), byte(h>>24))
}

// head gives the head that the document asks for.
func head(w, n, m byte) []byte {
	return summed('S', 'T', 'R', 'A', 1, w, n, 0, m, 0)
}

func TestEncodeExamples(t *testing.T) {
	for _, c := range []struct {
		values []uint64
		marks  []int
		want   [][]byte
	}{
		{nil, nil, [][]byte{head(0, 0, 0), summed(), summed(), summed(0)}},
		{[]uint64{5, 2, 5}, []int{1}, [][]byte{head(3, 3, 1), summed(205, 0), summed(13), summed(3)}},
		// w of 0, though there are values.
		{[]uint64{0, 0, 0}, nil, [][]byte{head(0, 3, 0), summed(), summed(7), summed(0)}},
		// w of 64.
		{[]uint64{math.MaxUint64}, []int{0}, [][]byte{head(64, 1, 1), summed(255, 255, 255, 255, 255, 255, 255, 255), summed(1), summed(1)}},
		{[]uint64{1, 1 << 63}, nil, [][]byte{head(64, 2, 0), summed(2, 0, 0, 0, 0, 0, 0, 0, 0, 0, 0, 0, 0, 0, 0, 64), summed(3), summed(0)}},
		// q of 0: as many marks as values, and more than half of them.
		{[]uint64{0, 0}, []int{0, 1}, [][]byte{head(0, 2, 2), summed(), summed(3), summed(5)}},
		{[]uint64{1, 0, 1}, []int{0, 2}, [][]byte{head(1, 3, 2), summed(5), summed(13), summed(9)}},
		// q of 1, at its edge: just half of them.
		{make([]uint64, 4), []int{0, 3}, [][]byte{head(0, 4, 2), summed(), summed(15), summed(2 + 4 + 16)}},
		// q of 2, and the mark n - 1.
		{make([]uint64, 4), []int{3}, [][]byte{head(0, 4, 1), summed(), summed(15), summed(7)}},
	} {
		x := mustBuild(t, c.values, c.marks)
		if got, want := x.Encode(), bytes.Join(c.want, nil); !bytes.Equal(got, want) {
			t.Errorf("bytes of %v, %v = %v, want %v", c.values, c.marks, got, want)
		}
	}
}

func TestEncodeLengths(t *testing.T) {
	for _, c := range []struct {
		values []uint64
		marks  []int
		want   int
	}{
		{nil, nil, 14 + 4 + 4 + 5},
		{[]uint64{5, 2, 5}, []int{1}, 14 + 6 + 5 + 5},
		{make([]uint64, 200), nil, 14 + 4 + 54 + 4 + 26},
		{slices.Repeat([]uint64{1 << 63}, 200), upTo(200), 14 + 1604 + 54 + 4 + 51},
		{make([]uint64, 200), []int{199}, 14 + 4 + 54 + 4 + 2},
	} {
		x := mustBuild(t, c.values, c.marks)
		got := x.Encode()
		if len(got) != c.want {
			t.Errorf("%d values, %d marks: %d bytes, want %d", len(c.values), len(c.marks), len(got), c.want)
		}
		if n, m := int(got[6])+int(got[7])<<8, int(got[8])+int(got[9])<<8; n != len(c.values) || m != len(c.marks) {
			t.Errorf("%d values, %d marks: the head says %d, %d", len(c.values), len(c.marks), n, m)
		}
	}
}

// reference writes an index by the words of the document, a bit a byte, with
// none of the program's packages.
func reference(values []uint64, marks []int) []byte {
	n, m, w := len(values), len(marks), 0
	for _, v := range values {
		for w < 64 && v>>w != 0 {
			w++
		}
	}
	out := head(byte(w), byte(n), byte(m))
	for _, row := range [][]byte{layersOf(values, w), bracketsOf(values), marksOf(marks, n)} {
		part := make([]byte, (len(row)+7)/8)
		for k, bit := range row {
			part[k/8] += bit << (k % 8)
		}
		out = append(out, summed(part...)...)
	}
	return out
}

func layersOf(values []uint64, w int) []byte {
	var row []byte
	order := slices.Clone(values)
	for b := w - 1; b >= 0; b-- {
		for _, v := range order {
			row = append(row, byte(v>>b&1))
		}
		slices.SortStableFunc(order, func(u, v uint64) int { return int(u>>b&1) - int(v>>b&1) })
	}
	return row
}

// bracketsOf puts the row together from its values: a value, what stands
// behind it and is no less, and its end; then the rest.
func bracketsOf(values []uint64) []byte {
	if len(values) == 0 {
		return nil
	}
	end := 1
	for end < len(values) && values[end] >= values[0] {
		end++
	}
	return slices.Concat([]byte{1}, bracketsOf(values[1:end]), []byte{0}, bracketsOf(values[end:]))
}

func marksOf(marks []int, n int) []byte {
	m, size, q := len(marks), 1, 0
	for m > 0 && 2*size*m <= n {
		size, q = 2*size, q+1
	}
	var row []byte
	for _, p := range marks {
		for range q {
			row, p = append(row, byte(p%2)), p/2
		}
	}
	high := make([]byte, m+n/size+1)
	for i, p := range marks {
		high[p/size+i] = 1
	}
	return append(row, high...)
}

// drawn gives values and marks of all sizes, with many that are equal, too.
func drawn(r *rand.Rand) ([]uint64, []int) {
	values := make([]uint64, r.Intn(api.MaxValues+1))
	mask := uint64(math.MaxUint64) >> r.Intn(65)
	for i := range values {
		values[i] = r.Uint64() & mask
	}
	var marks []int
	often := 1 + r.Intn(40)
	for p := range values {
		if r.Intn(often) == 0 {
			marks = append(marks, p)
		}
	}
	return values, marks
}

func TestEncodeDrawn(t *testing.T) {
	r := rand.New(rand.NewSource(6))
	for range 500 {
		values, marks := drawn(r)
		x := mustBuild(t, values, marks)
		if got, want := x.Encode(), reference(values, marks); !bytes.Equal(got, want) {
			t.Fatalf("bytes of %v, %v = %v, want %v", values, marks, got, want)
		}
	}
}

func TestEncodeEachCountOfMarks(t *testing.T) {
	values := make([]uint64, api.MaxValues)
	for m := range api.MaxValues + 1 {
		for _, marks := range [][]int{upTo(m), upTo(api.MaxValues)[api.MaxValues-m:]} {
			x := mustBuild(t, values, marks)
			if got, want := x.Encode(), reference(values, marks); !bytes.Equal(got, want) {
				t.Fatalf("bytes of %d noughts, marks %v = %v, want %v", len(values), marks, got, want)
			}
		}
	}
}

func TestEncodeGivesNewMemory(t *testing.T) {
	x := mustBuild(t, []uint64{5, 2, 5}, []int{1})
	first := x.Encode()
	was := slices.Clone(first)
	second := x.Encode()
	spoil(first)
	if !bytes.Equal(second, was) {
		t.Errorf("two answers share memory: %v, not %v", second, was)
	}
	if got := x.Encode(); !bytes.Equal(got, was) {
		t.Errorf("the index shares memory with its answer: %v, not %v", got, was)
	}
}

func TestEncodeOfNoIndex(t *testing.T) {
	x, _ := Build(nil, []int{0})
	if got := x.Encode(); got != nil {
		t.Errorf("what a refused Build gave is written as %v", got)
	}
	new(Index).Encode()
}
