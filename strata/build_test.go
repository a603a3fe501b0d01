package strata

import (
	"bytes"
	"math"
	"slices"
	"testing"

	"strata/api"
)

// upTo gives the places from 0 to n - 1.
func upTo(n int) []int {
	places := make([]int, n)
	for p := range places {
		places[p] = p
	}
	return places
}

// mustBuild builds what may be built.
func mustBuild(t *testing.T, values []uint64, marks []int) *Index {
	t.Helper()
	x, e := Build(values, marks)
	if x == nil || e != api.OK {
		t.Fatalf("Build of %d values, marks %v = %v, %d", len(values), marks, x, e)
	}
	return x
}

func TestBuildTakes(t *testing.T) {
	for _, c := range []struct {
		values []uint64
		marks  []int
	}{
		{nil, nil},
		{[]uint64{}, []int{}},
		{[]uint64{0}, nil},
		{[]uint64{0}, []int{0}},
		{[]uint64{math.MaxUint64, 0, 1 << 63}, []int{0, 2}},
		{make([]uint64, api.MaxValues-1), upTo(api.MaxValues - 1)},
		{make([]uint64, api.MaxValues), nil},
		{make([]uint64, api.MaxValues), []int{0, api.MaxValues - 1}},
		{make([]uint64, api.MaxValues), upTo(api.MaxValues)},
	} {
		mustBuild(t, c.values, c.marks)
	}
}

func TestBuildRefuses(t *testing.T) {
	three := []uint64{1, 2, 3}
	most := make([]uint64, api.MaxValues)
	for _, c := range []struct {
		values []uint64
		marks  []int
		want   api.Errno
	}{
		{make([]uint64, api.MaxValues+1), nil, api.ErrLong},
		{make([]uint64, 100000), nil, api.ErrLong},
		{nil, []int{0}, api.ErrMarks},
		{nil, []int{-1}, api.ErrMarks},
		{three, []int{-1}, api.ErrMarks},
		{three, []int{3}, api.ErrMarks},
		{three, []int{0, 3}, api.ErrMarks},
		{three, []int{0, 0}, api.ErrMarks},
		{three, []int{0, 2, 1}, api.ErrMarks},
		{three, []int{0, 1, 2, 2}, api.ErrMarks},
		{three, upTo(100000), api.ErrMarks},
		{three, []int{math.MinInt}, api.ErrMarks},
		{three, []int{math.MaxInt}, api.ErrMarks},
		{most, []int{api.MaxValues}, api.ErrMarks},
		{most, upTo(api.MaxValues + 1), api.ErrMarks},
	} {
		if x, e := Build(c.values, c.marks); x != nil || e != c.want {
			t.Errorf("Build of %d values, %d marks = %v, %d, want %d", len(c.values), len(c.marks), x, e, c.want)
		}
	}
}

func TestBuildTellsLongFirst(t *testing.T) {
	long := make([]uint64, api.MaxValues+1)
	for _, marks := range [][]int{{-1}, {api.MaxValues + 1}, {1, 1}, {2, 1}} {
		if x, e := Build(long, marks); x != nil || e != api.ErrLong {
			t.Errorf("Build of too many values, marks %v = %v, %d", marks, x, e)
		}
	}
}

func TestBuildLeavesLists(t *testing.T) {
	values := []uint64{9, 3, 9, 1, 77, 78, 79}
	marks := []int{0, 3, 66, 67}
	valuesWere, marksWere := slices.Clone(values), slices.Clone(marks)
	mustBuild(t, values[:4], marks[:2])
	Build(values[:4], marks)
	if !slices.Equal(values, valuesWere) {
		t.Errorf("the values were written into: %v", values)
	}
	if !slices.Equal(marks, marksWere) {
		t.Errorf("the marks were written into: %v", marks)
	}
}

func TestBuildKeepsNoList(t *testing.T) {
	values := []uint64{9, 3, 9, 1}
	marks := []int{0, 3}
	x := mustBuild(t, values, marks)
	was := x.Encode()
	clear(values)
	clear(marks)
	if got := x.Encode(); !bytes.Equal(got, was) {
		t.Errorf("a list that was handed in is kept: %v, not %v", got, was)
	}
}

func TestIndexesAreApart(t *testing.T) {
	values, marks := []uint64{5, 2, 5}, []int{1}
	x := mustBuild(t, values, marks)
	was := x.Encode()
	y := mustBuild(t, values, marks)
	z := mustBuild(t, []uint64{1, 2, 3, 4}, []int{0, 3})
	spoil(y.Encode())
	spoil(z.Encode())
	if got := x.Encode(); !bytes.Equal(got, was) {
		t.Errorf("another index changed this one: %v, not %v", got, was)
	}
	if got := y.Encode(); !bytes.Equal(got, was) {
		t.Errorf("the same lists give %v, then %v", was, got)
	}
}

// spoil writes over all of a list, spare room too.
func spoil(l []byte) {
	l = l[:cap(l)]
	for i := range l {
		l[i] = 0xa5
	}
}
