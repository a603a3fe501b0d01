package mark

import (
	"bytes"
	"math"
	"math/rand"
	"slices"
	"testing"
)

func TestFit(t *testing.T) {
	for _, c := range []struct {
		marks []int
		n     int
		want  bool
	}{
		{nil, 0, true},
		{nil, 5, true},
		{[]int{0}, 0, false},
		{[]int{0}, 1, true},
		{[]int{0, 4}, 5, true},
		{[]int{0, 1, 2, 3, 4}, 5, true},
		{[]int{5}, 5, false},
		{[]int{0, 5}, 5, false},
		{[]int{-1}, 5, false},
		{[]int{2, -1}, 5, false},
		{[]int{2, 2}, 5, false},
		{[]int{0, 0}, 5, false},
		{[]int{3, 1}, 5, false},
		{[]int{math.MinInt}, 5, false},
		{[]int{math.MaxInt}, 5, false},
		{[]int{math.MaxInt, math.MinInt}, 5, false},
	} {
		if got := Fit(c.marks, c.n); got != c.want {
			t.Errorf("Fit(%v, %d) = %v", c.marks, c.n, got)
		}
	}
}

func TestLowBits(t *testing.T) {
	if q := lowBits(0, 200); q != 0 {
		t.Errorf("q of no marks = %d", q)
	}
	for n := 1; n <= 200; n++ {
		for m := 1; m <= n; m++ {
			q := lowBits(m, n)
			if q < 0 || m<<q > n || m<<(q+1) <= n {
				t.Errorf("q of %d marks among %d = %d", m, n, q)
			}
		}
	}
}

func TestBytesExamples(t *testing.T) {
	for _, c := range []struct {
		marks []int
		n     int
		want  []byte
	}{
		{nil, 0, []byte{0}},
		{nil, 6, []byte{0}},
		{nil, 7, []byte{0}},
		{nil, 8, []byte{0, 0}},
		{[]int{1}, 3, []byte{3}},
		{[]int{0}, 1, []byte{1}},
		{[]int{0, 2}, 3, []byte{9}},
		{[]int{7}, 8, []byte{15}},
		{[]int{0, 1, 2, 3}, 4, []byte{85, 0}},
		// q is 7: the bits 1110001, then 1 + 1 + 1, of which 1 is 1.
		{[]int{199}, 200, []byte{1 + 2 + 4 + 64, 1}},
		// q is 6: twice six bits, then 2 + 3 + 1, of which 0 and 3 + 1 are 1.
		{[]int{0, 199}, 200, []byte{7 << 6 & 255, 7>>2 + 1<<4, 1}},
	} {
		if got := Of(c.marks, c.n).Bytes(); !bytes.Equal(got, c.want) {
			t.Errorf("marks %v of %d = %v, want %v", c.marks, c.n, got, c.want)
		}
	}
}

// readBack tells the marks and how many bits it looked at, by what the
// document says of their bytes.
func readBack(row []byte, n int, m int) ([]int, int) {
	bit := func(k int) int { return int(row[k/8]) >> (k % 8) & 1 }
	q := 0
	for m > 0 && m<<(q+1) <= n {
		q++
	}
	count := m*q + m + n/(1<<q) + 1
	var marks []int
	for k := m * q; k < count; k++ {
		if bit(k) == 0 {
			continue
		}
		i := len(marks)
		p := (k - m*q - i) << q
		for low := range q {
			p += bit(i*q+low) << low
		}
		marks = append(marks, p)
	}
	return marks, count
}

func TestBytesDrawn(t *testing.T) {
	r := rand.New(rand.NewSource(5))
	for round := range 600 {
		n := r.Intn(201)
		var marks []int
		for p := range n {
			if r.Intn(1+round%60) == 0 {
				marks = append(marks, p)
			}
		}
		was := slices.Clone(marks)
		row := Of(marks, n).Bytes()
		got, count := readBack(row, n, len(marks))
		if len(row) != (count+7)/8 || !slices.Equal(got, was) {
			t.Fatalf("marks %v of %d = %v: that is %v", was, n, row, got)
		}
		if last := count % 8; last != 0 && row[len(row)-1]>>last != 0 {
			t.Fatalf("marks %v of %d = %v: what is left of the last byte is not 0", was, n, row)
		}
		if !slices.Equal(marks, was) {
			t.Fatalf("the marks were written into: %v, not %v", marks, was)
		}
	}
}

func TestBeforeAndAfter(t *testing.T) {
	r := rand.New(rand.NewSource(10))
	for round := range 300 {
		n := 1 + r.Intn(200)
		var marks []int
		for p := range n {
			if r.Intn(1+round%60) == 0 {
				marks = append(marks, p)
			}
		}
		s := Of(marks, n)
		if s.Len() != len(marks) {
			t.Fatalf("marks %v: %d of them", marks, s.Len())
		}
		about := []int{math.MinInt, math.MinInt + 1, -1, n, n + 1, 1 << 32, math.MaxInt}
		for p := range n {
			about = append(about, p)
		}
		for _, p := range about {
			i, there := slices.BinarySearch(marks, p)
			wantPlace(t, marks, p, i, s.After)
			if !there {
				i--
			}
			wantPlace(t, marks, p, i, s.Before)
		}
	}
}

// wantPlace: the mark numbered i, or none.
func wantPlace(t *testing.T, marks []int, p int, i int, ask func(int) (int, bool)) {
	t.Helper()
	want, there := 0, i >= 0 && i < len(marks)
	if there {
		want = marks[i]
	}
	if got, ok := ask(p); got != want || ok != there {
		t.Fatalf("marks %v at %d: %d, %v, not %d, %v", marks, p, got, ok, want, there)
	}
}

func TestNoMarks(t *testing.T) {
	for _, s := range []Marks{Of(nil, 0), Of(nil, 200), {}} {
		for _, p := range []int{math.MinInt, -1, 0, 1, math.MaxInt} {
			wantPlace(t, nil, p, 0, s.Before)
			wantPlace(t, nil, p, 0, s.After)
		}
	}
}

func TestRead(t *testing.T) {
	r := rand.New(rand.NewSource(23))
	for n := range 201 {
		for range 10 {
			marks := r.Perm(n)[:r.Intn(n+1)]
			slices.Sort(marks)
			m := len(marks)
			data := Of(marks, n).Bytes()
			was := bytes.Clone(data)
			if got := Size(m, n); got != len(data) {
				t.Fatalf("%d marks of %d have %d bytes, not %d", m, n, got, len(data))
			}
			s := Read(data, m, n)
			clear(data)
			if s.Len() != m || !bytes.Equal(s.Bytes(), was) {
				t.Fatalf("marks %v of %d are read as %v", marks, n, s)
			}
			if got := s.Places(); !slices.Equal(got, marks) {
				t.Fatalf("marks %v of %d are read as %v", marks, n, got)
			}
		}
	}
}

// TestReadAnyBits: if there are fewer ones than marks, the places that are
// missing are none of the row; all bits are read without a panic.
func TestReadAnyBits(t *testing.T) {
	r := rand.New(rand.NewSource(24))
	for n := 1; n <= 200; n++ {
		for _, m := range []int{1, 1 + r.Intn(n), n} {
			data := make([]byte, Size(m, n))
			if places := Read(data, m, n).Places(); Fit(places, n) || len(places) != m {
				t.Fatalf("%d marks of %d without ones are read as %v", m, n, places)
			}
			for range 20 {
				r.Read(data)
				Read(data, m, n).Places()
			}
			for i := range data {
				data[i] = 255
			}
			Read(data, m, n).Places()
		}
	}
}
