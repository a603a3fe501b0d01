package strata

import (
	"bytes"
	"math"
	"math/rand"
	"slices"
	"testing"

	"strata/api"
)

// answer is what a question gave: a place, a count or a value, and an error.
type answer struct {
	number uint64
	e      api.Errno
}

// got makes an answer of what a call gives.
func got[T int | uint64](number T, e api.Errno) answer {
	return answer{uint64(number), e}
}

func ok[T int | uint64](number T) answer { return got(number, api.OK) }

func refused(e api.Errno) answer { return answer{0, e} }

// is tells where an answer is not the one that is wanted.
func is(t *testing.T, what string, got answer, want answer) {
	t.Helper()
	if got != want {
		t.Errorf("%s = %d, %d, want %d, %d", what, got.number, got.e, want.number, want.e)
	}
}

func TestAnswersOfExamples(t *testing.T) {
	x := mustBuild(t, []uint64{5, 2, 5}, []int{1})
	is(t, "Least(0, 3)", got(x.Least(0, 3)), ok(1))
	is(t, "Least(2, 3)", got(x.Least(2, 3)), ok(2))
	is(t, "Nth(0, 3, 1)", got(x.Nth(0, 3, 1)), ok(5))
	is(t, "Count(0, 3, 3, 9)", got(x.Count(0, 3, 3, 9)), ok(2))
	is(t, "Rank(5, 3)", got(x.Rank(5, 3)), ok(2))
	is(t, "Select(5, 1)", got(x.Select(5, 1)), ok(2))
	is(t, "Select(5, 2)", got(x.Select(5, 2)), refused(api.ErrNone))
	is(t, "Before(0)", got(x.Before(0)), refused(api.ErrNone))
	is(t, "After(-9)", got(x.After(-9)), ok(1))
}

func TestSize(t *testing.T) {
	for _, c := range []struct{ n, m int }{{0, 0}, {1, 0}, {1, 1}, {3, 2}, {200, 0}, {200, 1}, {200, 200}} {
		x := mustBuild(t, make([]uint64, c.n), upTo(c.m))
		if n, m := x.Size(); n != c.n || m != c.m {
			t.Errorf("Size of %d values, %d marks = %d, %d", c.n, c.m, n, m)
		}
	}
}

// ends gives numbers that are below a range from 0 on, or no less than its end.
func ends(end int) []int {
	return []int{math.MinInt, math.MinInt + 1, -201, -1, end, end + 1, end + 64, 1 << 32, math.MaxInt - 1, math.MaxInt}
}

// wrongParts gives parts that a row of n values does not have.
func wrongParts(n int) [][2]int {
	out := [][2]int{{0, 0}, {n, n}, {n / 2, n / 2}, {1, 0}, {n, 0}, {math.MinInt, math.MaxInt}, {math.MaxInt, math.MinInt}}
	for _, wrong := range ends(n + 1) {
		out = append(out, [2]int{wrong, n}, [2]int{0, wrong}, [2]int{wrong, wrong}, [2]int{wrong - 1, wrong}, [2]int{wrong, wrong + 1})
	}
	return out
}

// someIndexes gives indexes of no, one, some and the most values.
func someIndexes(t *testing.T) []*Index {
	return []*Index{
		mustBuild(t, nil, nil),
		mustBuild(t, []uint64{0}, nil),
		mustBuild(t, []uint64{math.MaxUint64}, []int{0}),
		mustBuild(t, []uint64{5, 2, 5}, []int{1}),
		mustBuild(t, slices.Repeat([]uint64{7, 1 << 63, 0, 9}, 50), upTo(200)),
	}
}

func TestRangesThatAreRefused(t *testing.T) {
	for _, x := range someIndexes(t) {
		n, _ := x.Size()
		for _, i := range ends(n) {
			is(t, "Access", got(x.Access(i)), refused(api.ErrRange))
		}
		for _, i := range ends(n + 1) {
			is(t, "Rank", got(x.Rank(5, i)), refused(api.ErrRange))
			is(t, "Rank of what is not there", got(x.Rank(6, i)), refused(api.ErrRange))
		}
		for _, p := range wrongParts(n) {
			l, r := p[0], p[1]
			is(t, "Least", got(x.Least(l, r)), refused(api.ErrRange))
			// With a wrong order, too: the range is told first.
			for _, k := range []int{0, -1, n, math.MaxInt} {
				is(t, "Nth", got(x.Nth(l, r, k)), refused(api.ErrRange))
			}
			is(t, "Count", got(x.Count(l, r, 4, 5)), refused(api.ErrRange))
			is(t, "Count", got(x.Count(l, r, 5, 4)), refused(api.ErrRange))
		}
	}
}

func TestOrdersThatAreRefused(t *testing.T) {
	for _, x := range someIndexes(t) {
		for _, k := range []int{-1, -2, math.MinInt} {
			is(t, "Select", got(x.Select(5, k)), refused(api.ErrOrder))
			is(t, "Select of what is not there", got(x.Select(6, k)), refused(api.ErrOrder))
		}
		n, _ := x.Size()
		for l := range n {
			for r := l + 1; r <= n; r += 7 {
				for _, k := range ends(r - l) {
					is(t, "Nth", got(x.Nth(l, r, k)), refused(api.ErrOrder))
				}
				is(t, "Count", got(x.Count(l, r, 1, 0)), refused(api.ErrOrder))
				is(t, "Count", got(x.Count(l, r, math.MaxUint64, math.MaxUint64-1)), refused(api.ErrOrder))
				is(t, "Count", got(x.Count(l, r, math.MaxUint64, 0)), refused(api.ErrOrder))
			}
		}
	}
}

func TestValuesThatAreNotThere(t *testing.T) {
	x := mustBuild(t, []uint64{5, 2, 5}, []int{1})
	// 13 and 1<<63 + 5 end in the bits of 5, but have more than there are layers.
	for _, v := range []uint64{0, 1, 3, 4, 6, 7, 8, 10, 13, 1<<63 + 5, math.MaxUint64} {
		is(t, "Rank", got(x.Rank(v, 3)), ok(0))
		is(t, "Select", got(x.Select(v, 0)), refused(api.ErrNone))
		is(t, "Count", got(x.Count(0, 3, v, v)), ok(0))
	}
	noughts := mustBuild(t, []uint64{0, 0}, nil)
	is(t, "Rank of 1 among noughts", got(noughts.Rank(1, 2)), ok(0))
	is(t, "Rank of 0 among noughts", got(noughts.Rank(0, 2)), ok(2))
	is(t, "Select of 0 among noughts", got(noughts.Select(0, 1)), ok(1))
	is(t, "Select of 0 among noughts", got(noughts.Select(0, 2)), refused(api.ErrNone))
	is(t, "Select of 1 among noughts", got(noughts.Select(1, 0)), refused(api.ErrNone))
	is(t, "Select of 5, far on", got(x.Select(5, math.MaxInt)), refused(api.ErrNone))
}

func TestCountAtTheEndsOfNumbers(t *testing.T) {
	const most = math.MaxUint64
	x := mustBuild(t, []uint64{most, 0, most - 1, 1 << 63, most}, nil)
	for _, c := range []struct {
		lo, hi uint64
		want   int
	}{
		{0, most, 5}, {0, most - 1, 3}, {1, most, 4}, {most, most, 2}, {most - 1, most, 3},
		{0, 0, 1}, {1, 1<<63 - 1, 0}, {1 << 63, 1 << 63, 1}, {0, 1 << 63, 2},
	} {
		is(t, "Count", got(x.Count(0, 5, c.lo, c.hi)), ok(c.want))
	}
	small := mustBuild(t, []uint64{1, 0, 1}, nil)
	is(t, "Count of wide bounds", got(small.Count(0, 3, 2, most)), ok(0))
	is(t, "Count up to a wide bound", got(small.Count(0, 3, 1, 2)), ok(2))
}

// sought tells where v stands with k such ahead of it.
func sought(values []uint64, v uint64, k int) answer {
	for i := range values {
		if values[i] != v {
			continue
		}
		if k == 0 {
			return ok(i)
		}
		k--
	}
	return refused(api.ErrNone)
}

// counted tells how many of the values are lo to hi.
func counted(values []uint64, lo uint64, hi uint64) answer {
	count := 0
	for _, v := range values {
		if lo <= v && v <= hi {
			count++
		}
	}
	return ok(count)
}

func TestAnswersOfDrawn(t *testing.T) {
	r := rand.New(rand.NewSource(11))
	for range 200 {
		values, marks := drawn(r)
		x := mustBuild(t, values, marks)
		for i, v := range values {
			is(t, "Access", got(x.Access(i)), ok(v))
			for _, w := range []uint64{v, v ^ 1, r.Uint64()} {
				is(t, "Rank", got(x.Rank(w, i)), counted(values[:i], w, w))
				is(t, "Rank at the end", got(x.Rank(w, len(values))), counted(values, w, w))
				k := r.Intn(4)
				is(t, "Select", got(x.Select(w, k)), sought(values, w, k))
			}
			to := i + 1 + r.Intn(len(values)-i)
			part := values[i:to]
			is(t, "Least", got(x.Least(i, to)), ok(i+slices.Index(part, slices.Min(part))))
			sorted := slices.Sorted(slices.Values(part))
			for _, k := range []int{0, r.Intn(len(part)), len(part) - 1} {
				is(t, "Nth", got(x.Nth(i, to, k)), ok(sorted[k]))
			}
			w := values[r.Intn(len(values))]
			is(t, "Count", got(x.Count(i, to, min(v, w), max(v, w))), counted(part, min(v, w), max(v, w)))
		}
	}
}

func TestSelectOfEachPlace(t *testing.T) {
	r := rand.New(rand.NewSource(12))
	for range 100 {
		values, _ := drawn(r)
		x := mustBuild(t, values, nil)
		for i, v := range values {
			k, _ := x.Rank(v, i)
			is(t, "Select", got(x.Select(v, k)), ok(i))
		}
	}
}

func TestMarksAround(t *testing.T) {
	r := rand.New(rand.NewSource(13))
	for range 200 {
		values, marks := drawn(r)
		x := mustBuild(t, values, marks)
		for _, p := range append(ends(len(values)), upTo(len(values))...) {
			before, after := refused(api.ErrNone), refused(api.ErrNone)
			for _, q := range marks {
				if q <= p {
					before = ok(q)
				}
			}
			for _, q := range slices.Backward(marks) {
				if q >= p {
					after = ok(q)
				}
			}
			is(t, "Before", got(x.Before(p)), before)
			is(t, "After", got(x.After(p)), after)
		}
	}
}

func TestMarksAtTheEnds(t *testing.T) {
	x := mustBuild(t, make([]uint64, 200), []int{0, 199})
	is(t, "Before(0)", got(x.Before(0)), ok(0))
	is(t, "Before(-1)", got(x.Before(-1)), refused(api.ErrNone))
	is(t, "Before(198)", got(x.Before(198)), ok(0))
	is(t, "Before(199)", got(x.Before(199)), ok(199))
	is(t, "Before of the most", got(x.Before(math.MaxInt)), ok(199))
	is(t, "After of the least", got(x.After(math.MinInt)), ok(0))
	is(t, "After(0)", got(x.After(0)), ok(0))
	is(t, "After(1)", got(x.After(1)), ok(199))
	is(t, "After(199)", got(x.After(199)), ok(199))
	is(t, "After(200)", got(x.After(200)), refused(api.ErrNone))
}

// answers gives what an index says to all kinds of questions, right and wrong.
func answers(x *Index) []answer {
	n, m := x.Size()
	out := []answer{ok(n), ok(m)}
	for i := -1; i <= n+1; i++ {
		out = append(out, got(x.Access(i)), got(x.Before(i)), got(x.After(i)))
		for _, v := range []uint64{0, 2, 5, 9, 13, math.MaxUint64} {
			out = append(out, got(x.Rank(v, i)), got(x.Select(v, i)))
		}
		for r := -1; r <= n+1; r++ {
			out = append(out, got(x.Least(i, r)), got(x.Nth(i, r, 0)), got(x.Nth(i, r, 1)))
			out = append(out, got(x.Count(i, r, 2, 5)), got(x.Count(i, r, 5, 2)))
		}
	}
	return out
}

func TestQuestionsChangeNothing(t *testing.T) {
	for _, x := range someIndexes(t) {
		bytesWere, were := x.Encode(), answers(x)
		if now := answers(x); !slices.Equal(now, were) {
			t.Errorf("asked again: %v, not %v", now, were)
		}
		if now := x.Encode(); !bytes.Equal(now, bytesWere) {
			t.Errorf("a question changed the bytes: %v, not %v", now, bytesWere)
		}
	}
}

func TestQuestionsAskNoListOfTheCaller(t *testing.T) {
	values, marks := []uint64{5, 2, 5, 9}, []int{1, 3}
	x := mustBuild(t, values, marks)
	were := answers(x)
	spoil(x.Encode())
	clear(values)
	clear(marks)
	mustBuild(t, []uint64{1, 2, 3, 4}, []int{0})
	if now := answers(x); !slices.Equal(now, were) {
		t.Errorf("the index hangs on what is not its own: %v, not %v", now, were)
	}
}

func TestLeastAsksTheBracketsAlone(t *testing.T) {
	x := mustBuild(t, []uint64{1, 2, 3, 4}, nil)
	falling := mustBuild(t, []uint64{4, 3, 2, 1}, nil)
	x.brackets = falling.brackets
	is(t, "Least by the brackets of other values", got(x.Least(0, 4)), ok(3))
}

func TestQuestionsOfNoIndex(t *testing.T) {
	none, _ := Build(nil, []int{0})
	empty := answers(mustBuild(t, nil, nil))
	for _, x := range []*Index{none, new(Index)} {
		if now := answers(x); !slices.Equal(now, empty) {
			t.Errorf("no index answers %v, not as one without values: %v", now, empty)
		}
	}
}
