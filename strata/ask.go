package strata

import "strata/api"

// Size tells how many values and marks there are (P6).
func (x *Index) Size() (int, int) {
	x = x.orEmpty()
	return x.layers.Len(), x.marks.Len()
}

// Access tells a value (P6).
func (x *Index) Access(i int) (uint64, api.Errno) {
	if n, _ := x.Size(); i < 0 || i >= n {
		return 0, api.ErrRange
	}
	return x.layers.Nth(i, i+1, 0), api.OK
}

// Rank tells how often a value stands ahead of a place (P6).
func (x *Index) Rank(v uint64, i int) (int, api.Errno) {
	x = x.orEmpty()
	if n, _ := x.Size(); i < 0 || i > n {
		return 0, api.ErrRange
	}
	_, equal := x.layers.Against(0, i, v)
	return equal, api.OK
}

// Select tells where a value stands for the k-th time (P6).
func (x *Index) Select(v uint64, k int) (int, api.Errno) {
	if k < 0 {
		return 0, api.ErrOrder
	}
	return found(x.orEmpty().layers.Place(v, k))
}

// Least tells where the least of a part stands first (P7).
func (x *Index) Least(l int, r int) (int, api.Errno) {
	if !x.hasPart(l, r) {
		return 0, api.ErrRange
	}
	return x.brackets.Least(l, r), api.OK
}

// Nth tells the k-th of a part, by size (P7).
func (x *Index) Nth(l int, r int, k int) (uint64, api.Errno) {
	if !x.hasPart(l, r) {
		return 0, api.ErrRange
	}
	if k < 0 || k >= r-l {
		return 0, api.ErrOrder
	}
	return x.layers.Nth(l, r, k), api.OK
}

// Count tells how many of a part lie between two values (P7).
func (x *Index) Count(l int, r int, lo uint64, hi uint64) (int, api.Errno) {
	if !x.hasPart(l, r) {
		return 0, api.ErrRange
	}
	if lo > hi {
		return 0, api.ErrOrder
	}
	lessThanLo, _ := x.layers.Against(l, r, lo)
	lessThanHi, equal := x.layers.Against(l, r, hi)
	return lessThanHi + equal - lessThanLo, api.OK
}

// Before tells the last mark that is not behind a place (P8).
func (x *Index) Before(p int) (int, api.Errno) {
	return found(x.orEmpty().marks.Before(p))
}

// After tells the first mark that is not ahead of a place (P8).
func (x *Index) After(p int) (int, api.Errno) {
	return found(x.orEmpty().marks.After(p))
}

// orEmpty gives an index without values for no index, which a refused Build
// leaves its caller with: so the questions need not panic there.
func (x *Index) orEmpty() *Index {
	if x == nil {
		return new(Index)
	}
	return x
}

// hasPart tells whether [l, r) is a part of the row, with a value at least.
func (x *Index) hasPart(l int, r int) bool {
	n, _ := x.Size()
	return l >= 0 && r <= n && l < r
}

// found gives a place, or the error that there is none.
func found(place int, ok bool) (int, api.Errno) {
	if !ok {
		return 0, api.ErrNone
	}
	return place, api.OK
}
