package layer

import "math/bits"

// Nth gives the value numbered k of the part [l, r), if that is put in order.
// A value by its place is the only one of a part of one.
func (y Layers) Nth(l int, r int, k int) uint64 {
	v := uint64(0)
	y.follow(l, r, func(bit int, zeros int) bool {
		if k < zeros {
			return false
		}
		k -= zeros
		v |= 1 << bit
		return true
	})
	return v
}

// Values gives all values, in the order of the row.
func (y Layers) Values() []uint64 {
	values := make([]uint64, y.n)
	for i := range values {
		values[i] = y.Nth(i, i+1, 0)
	}
	return values
}

// Against tells how many values of the part [l, r) are less than v, and how
// many are v. It takes no v + 1 or v - 1, so that no number runs over.
func (y Layers) Against(l int, r int, v uint64) (less int, equal int) {
	if y.tooWide(v) {
		return r - l, 0
	}
	from, to := y.follow(l, r, func(bit int, zeros int) bool {
		if has(v, bit) {
			less += zeros
		}
		return has(v, bit)
	})
	return less, to - from
}

// Place tells where v stands with k such ahead of it, and whether it does.
func (y Layers) Place(v uint64, k int) (int, bool) {
	if y.tooWide(v) {
		return 0, false
	}
	from, to := y.follow(0, y.n, func(bit int, zeros int) bool { return has(v, bit) })
	if k >= to-from {
		return 0, false
	}
	place := from + k
	for bit := range y.width {
		place = y.above(bit, place)
	}
	return place, true
}

// tooWide tells whether v has bits for which there is no layer: then it is
// greater than all values, though its other bits may be those of one.
func (y Layers) tooWide(v uint64) bool {
	return bits.Len64(v) > y.width
}

// follow takes the part [from, to) of the row down the layers. At each layer a
// closure is told how many noughts the part has there, and tells whether to
// go on with its ones or with its noughts. What is left at the end stands
// side by side, and follow gives where.
func (y Layers) follow(from int, to int, withOnes func(bit int, zeros int) bool) (int, int) {
	down(y.width, func(bit int) {
		onesFrom, onesTo := y.ones(bit, from), y.ones(bit, to)
		zeros := (to - onesTo) - (from - onesFrom)
		if withOnes(bit, zeros) {
			all := y.zeros(bit)
			from, to = all+onesFrom, all+onesTo
		} else {
			from, to = from-onesFrom, to-onesTo
		}
	})
	return from, to
}

// above tells where the value stands in the bit's layer that stands at the
// place in the order behind that layer.
func (y Layers) above(bit int, place int) int {
	start := y.start(bit)
	onesAhead := y.row.Ahead(start)
	all := y.zeros(bit)
	if place < all {
		return y.row.Zero(start-onesAhead+place) - start
	}
	return y.row.One(onesAhead+place-all) - start
}

// start tells where the bit's layer begins in the row.
func (y Layers) start(bit int) int {
	return (y.width - 1 - bit) * y.n
}

// ones tells how many ones of the bit's layer stand ahead of a place in it.
func (y Layers) ones(bit int, place int) int {
	start := y.start(bit)
	return y.row.Ahead(start+place) - y.row.Ahead(start)
}

// zeros tells how many noughts the bit's layer has.
func (y Layers) zeros(bit int) int {
	return y.n - y.ones(bit, y.n)
}
