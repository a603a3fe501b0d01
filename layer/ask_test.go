package layer

import (
	"math"
	"math/rand"
	"slices"
	"testing"
)

// asked is a row of values and some to ask about.
type asked struct {
	values []uint64
	about  []uint64
}

// rows gives rows of all widths, each to be asked about its own values, those
// beside them, and those that have a bit more than any of them.
func rows() []asked {
	r := rand.New(rand.NewSource(8))
	var out []asked
	for width := range 65 {
		values := make([]uint64, 1+r.Intn(30))
		for i := range values {
			values[i] = r.Uint64() >> (64 - width)
		}
		about := []uint64{0, 1, math.MaxUint64, 1 << 63}
		for _, v := range values {
			about = append(about, v, v-1, v+1, v|1<<width)
		}
		out = append(out, asked{values, about})
	}
	return out
}

func TestNth(t *testing.T) {
	for _, c := range rows() {
		values := c.values
		y := Of(values)
		for l := range values {
			for r := l + 1; r <= len(values); r++ {
				for k, want := range slices.Sorted(slices.Values(values[l:r])) {
					if got := y.Nth(l, r, k); got != want {
						t.Fatalf("of %v in [%d, %d): number %d is %d, not %d", values, l, r, k, got, want)
					}
				}
			}
		}
	}
}

func TestAgainst(t *testing.T) {
	for _, c := range rows() {
		values := c.values
		y := Of(values)
		for _, v := range c.about {
			for l := range values {
				less, equal := 0, 0
				for r := l; r <= len(values); r++ {
					if a, b := y.Against(l, r, v); a != less || b != equal {
						t.Fatalf("of %v in [%d, %d) against %d: %d, %d, not %d, %d", values, l, r, v, a, b, less, equal)
					}
					if r < len(values) && values[r] < v {
						less++
					}
					if r < len(values) && values[r] == v {
						equal++
					}
				}
			}
		}
	}
}

func TestPlace(t *testing.T) {
	for _, c := range rows() {
		values := c.values
		y := Of(values)
		for _, v := range c.about {
			k := 0
			for i := range values {
				if values[i] != v {
					continue
				}
				if got, ok := y.Place(v, k); !ok || got != i {
					t.Fatalf("of %v: %d for the time %d at %d, %v, not %d", values, v, k, got, ok, i)
				}
				k++
			}
			for _, more := range []int{k, k + 1, k + len(values), math.MaxInt} {
				if got, ok := y.Place(v, more); ok || got != 0 {
					t.Fatalf("of %v: %d for the time %d at %d, %v", values, v, more, got, ok)
				}
			}
		}
	}
}

func TestOfNone(t *testing.T) {
	for _, y := range []Layers{Of(nil), {}} {
		if y.Len() != 0 || y.Width() != 0 || len(y.Bytes()) != 0 {
			t.Errorf("no values: %v", y)
		}
		if a, b := y.Against(0, 0, 0); a != 0 || b != 0 {
			t.Errorf("no values against 0: %d, %d", a, b)
		}
		if place, ok := y.Place(0, 0); ok || place != 0 {
			t.Errorf("no values: 0 at %d, %v", place, ok)
		}
	}
}
