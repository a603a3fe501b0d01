package strata

import (
	"bytes"
	"math"
	"math/rand"
	"slices"
	"testing"

	"strata/api"
)

// mustLoad loads what may be loaded.
func mustLoad(t *testing.T, data []byte) *Index {
	t.Helper()
	x, e := Load(data)
	if x == nil || e != api.OK {
		t.Fatalf("Load of %v = %v, %d", data, x, e)
	}
	return x
}

// refuses: Load gives no index, but that error.
func refuses(t *testing.T, what string, data []byte, want api.Errno) {
	t.Helper()
	if x, e := Load(data); x != nil || e != want {
		t.Errorf("%s: Load = %v, %d, want %d", what, x, e, want)
	}
}

// wideHead gives a head with numbers of two bytes, its sum as it should be.
func wideHead(w, n, m int) []byte {
	return summed('S', 'T', 'R', 'A', 1, byte(w), byte(n), byte(n>>8), byte(m), byte(m>>8))
}

// joined puts a head and parts together.
func joined(l ...[]byte) []byte { return bytes.Join(l, nil) }

// example gives the bytes of 5, 2, 5 and the mark 1.
func example() []byte {
	return joined(head(3, 3, 1), summed(205, 0), summed(13), summed(3))
}

// with gives the example with another byte somewhere.
func with(place int, b byte) []byte {
	data := example()
	data[place] = b
	return data
}

func TestLoadExamples(t *testing.T) {
	x := mustLoad(t, example())
	if now, want := answers(x), answers(mustBuild(t, []uint64{5, 2, 5}, []int{1})); !slices.Equal(now, want) {
		t.Errorf("what was read answers %v, not %v", now, want)
	}
	empty := mustLoad(t, joined(head(0, 0, 0), summed(), summed(), summed(0)))
	if n, m := empty.Size(); n != 0 || m != 0 {
		t.Errorf("no values: Size = %d, %d", n, m)
	}
}

func TestLoadRefusesHeads(t *testing.T) {
	refuses(t, "nil", nil, api.ErrShort)
	refuses(t, "no bytes", []byte{}, api.ErrShort)
	for length := range api.HeadBytes {
		refuses(t, "a piece of a head", example()[:length], api.ErrShort)
		refuses(t, "fewer bytes, and other ones", make([]byte, length), api.ErrShort)
	}
	for place := range 4 {
		refuses(t, "other first bytes", with(place, '?'), api.ErrMagic)
		refuses(t, "a small letter", with(place, example()[place]|32), api.ErrMagic)
	}
	for b := range 256 {
		if b != api.Version {
			refuses(t, "another version", with(4, byte(b)), api.ErrVersion)
		}
	}
	for place := 5; place < api.HeadBytes; place++ {
		for turned := 1; turned < 256; turned++ {
			refuses(t, "a byte turned in the head", with(place, example()[place]^byte(turned)), api.ErrHead)
		}
	}
}

func TestLoadRefusesBounds(t *testing.T) {
	for _, c := range []struct{ w, n, m int }{
		{65, 3, 1}, {66, 0, 0}, {128, 3, 1}, {255, 3, 1},
		{3, 201, 1}, {3, 255, 1}, {3, 256, 0}, {3, 257, 1}, {0, 65535, 0},
		{3, 3, 4}, {3, 3, 255}, {0, 0, 1}, {3, 200, 201}, {3, 3, 256}, {3, 3, 257}, {3, 3, 259}, {0, 0, 65535},
		{65, 201, 202}, {255, 65535, 65535},
	} {
		refuses(t, "out of bounds", wideHead(c.w, c.n, c.m), api.ErrBounds)
		refuses(t, "out of bounds, with parts", joined(wideHead(c.w, c.n, c.m), example()[api.HeadBytes:]), api.ErrBounds)
	}
	for _, c := range []struct{ w, n, m int }{{64, 200, 200}, {64, 0, 0}, {0, 200, 0}, {3, 3, 3}} {
		refuses(t, "the head alone, within bounds", wideHead(c.w, c.n, c.m), api.ErrLength)
	}
}

// TestLoadTellsTheFirst: with two things wrong, the one that is named first.
func TestLoadTellsTheFirst(t *testing.T) {
	foreign := example()
	foreign[0], foreign[4], foreign[5] = 's', 9, 9
	refuses(t, "magic, version and sum of the head", foreign, api.ErrMagic)
	refuses(t, "magic, and a right sum", joined(summed('S', 'T', 'R', 'B', 1, 3, 3, 0, 1, 0), example()[14:]), api.ErrMagic)
	later := example()
	later[4], later[13] = 2, later[13]^1
	refuses(t, "version and sum of the head", later, api.ErrVersion)
	refuses(t, "version, and a right sum", joined(summed('S', 'T', 'R', 'A', 2, 3, 3, 0, 1, 0), example()[14:]), api.ErrVersion)
	refuses(t, "version and bounds", summed('S', 'T', 'R', 'A', 0, 99, 3, 0, 9, 0), api.ErrVersion)
	beyond := wideHead(65, 201, 202)
	beyond[12]++
	refuses(t, "sum of the head, bounds and length", beyond, api.ErrHead)
	refuses(t, "sum of the head and length", with(13, 0)[:20], api.ErrHead)
	refuses(t, "bounds and length", wideHead(3, 3, 4), api.ErrBounds)
	refuses(t, "length and sum of a part", with(14, 0)[:29], api.ErrLength)
	refuses(t, "length and bits", joined(head(3, 3, 1), summed(205, 0), summed(13), summed(1), []byte{0}), api.ErrLength)
	for wrong := range 3 {
		for _, place := range []int{14, 20, 25} {
			parts := [][]byte{{205, 0}, {13}, {3}}
			parts[wrong][0] ^= 1
			data := joined(head(3, 3, 1), summed(parts[0]...), summed(parts[1]...), summed(parts[2]...))
			data[place] ^= 128
			refuses(t, "sum of a part and bits", data, api.ErrSum)
		}
	}
}

func TestLoadRefusesLengths(t *testing.T) {
	r := rand.New(rand.NewSource(14))
	for range 60 {
		values, marks := drawn(r)
		data := mustBuild(t, values, marks).Encode()
		for length := range data {
			want := api.ErrLength
			if length < api.HeadBytes {
				want = api.ErrShort
			}
			refuses(t, "bytes left out at the end", data[:length], want)
		}
		for _, more := range [][]byte{{0}, {255}, make([]byte, 4), make([]byte, 256), make([]byte, 65536), data} {
			refuses(t, "bytes put to the end", joined(data, more), api.ErrLength)
		}
		refuses(t, "a byte put in behind the head", slices.Insert(slices.Clone(data), api.HeadBytes, 0), api.ErrLength)
	}
}

// TestLoadLengthsOfAllSizes: by the words of the document, for each head that
// may be, there is one length that is not refused as such.
func TestLoadLengthsOfAllSizes(t *testing.T) {
	for n := range api.MaxValues + 1 {
		for m := range n + 1 {
			w := (7*n + 11*m) % 65
			q := 0
			for m > 0 && m<<(q+1) <= n {
				q++
			}
			length := (w*n+7)/8 + (2*n+7)/8 + (m*q+m+n>>q+1+7)/8 + 3*4
			data := joined(wideHead(w, n, m), make([]byte, length+1))
			refuses(t, "one byte less", data[:len(data)-2], api.ErrLength)
			refuses(t, "one byte more", data, api.ErrLength)
			if _, e := Load(data[:len(data)-1]); e == api.ErrLength {
				t.Errorf("w %d, n %d, m %d: %d bytes are refused", w, n, m, len(data)-1)
			}
		}
	}
}

func TestLoadRefusesSums(t *testing.T) {
	for place := api.HeadBytes; place < len(example()); place++ {
		for turned := 1; turned < 256; turned++ {
			refuses(t, "a byte turned in a part", with(place, example()[place]^byte(turned)), api.ErrSum)
		}
	}
	// Of no bytes, too, there is a sum.
	empty := joined(head(0, 0, 0), summed(), summed(), summed(0))
	for place := api.HeadBytes; place < len(empty); place++ {
		data := slices.Clone(empty)
		data[place] ^= 1
		refuses(t, "a byte turned, of no values", data, api.ErrSum)
	}
}

func TestLoadRefusesBits(t *testing.T) {
	for _, c := range []struct {
		what string
		data []byte
	}{
		{"a bit behind the layers", joined(head(3, 3, 1), summed(205, 2), summed(13), summed(3))},
		{"the last bit behind the layers", joined(head(3, 3, 1), summed(205, 128), summed(13), summed(3))},
		{"a bit behind the brackets", joined(head(3, 3, 1), summed(205, 0), summed(13+64), summed(3))},
		{"a bit behind the marks", joined(head(3, 3, 1), summed(205, 0), summed(13), summed(3+16))},
		{"brackets of other values", joined(head(3, 3, 1), summed(205, 0), summed(7), summed(3))},
		{"no brackets", joined(head(3, 3, 1), summed(205, 0), summed(0), summed(3))},
		{"a first layer without ones", joined(head(3, 3, 0), summed(8, 0), summed(11), summed(0))},
		{"layers of noughts", joined(head(1, 3, 0), summed(0), summed(7), summed(0))},
		{"layers of no values", joined(head(1, 0, 0), summed(), summed(), summed(0))},
		{"all layers of no values", joined(head(64, 0, 0), summed(), summed(), summed(0))},
		{"a mark of no values", joined(head(0, 0, 0), summed(), summed(), summed(1))},
		{"more ones than marks", joined(head(0, 3, 0), summed(), summed(7), summed(1))},
		{"fewer ones than marks", joined(head(0, 3, 1), summed(), summed(7), summed(0))},
		{"no ones, but low bits", joined(head(0, 3, 1), summed(), summed(7), summed(1))},
		{"a mark twice", joined(head(0, 3, 2), summed(), summed(7), summed(3))},
		{"low bits that fall", joined(head(0, 4, 2), summed(), summed(15), summed(1+4+8))},
		{"low bits that are equal", joined(head(0, 4, 2), summed(), summed(15), summed(4+8))},
		{"the mark n", joined(head(0, 3, 3), summed(), summed(7), summed(2+8+64))},
		{"the mark n by its low bits", joined(head(0, 3, 1), summed(), summed(7), summed(1+4))},
		{"a mark far behind n", joined(head(0, 3, 1), summed(), summed(7), summed(8))},
	} {
		refuses(t, c.what, c.data, api.ErrBits)
	}
}

// numbered gives the digits of a number to a base, as values or as bytes.
func numbered[T uint64 | byte](number int, base int, count int) []T {
	out := make([]T, count)
	for i := range out {
		out[i] = T(number % base)
		number /= base
	}
	return out
}

// powerOf gives how many rows of so many digits there are.
func powerOf(base int, count int) int {
	all := 1
	for range count {
		all *= base
	}
	return all
}

// marksNumbered gives the places of the ones of a number.
func marksNumbered(number int) []int {
	var marks []int
	for p := 0; number>>p != 0; p++ {
		if number>>p&1 == 1 {
			marks = append(marks, p)
		}
	}
	return marks
}

// takesJust: the head and the parts from, but with all that the free ones of
// them can be, and right sums: of these Load takes those that are in the set,
// and no other. It gives how many it takes.
func takesJust(t *testing.T, set map[string]int, from [][]byte, free []int) int {
	t.Helper()
	count, taken := 0, 0
	for _, k := range free {
		count += len(from[k])
	}
	for number := range powerOf(256, count) {
		parts := slices.Clone(from)
		digits := numbered[byte](number, 256, count)
		for _, k := range free {
			parts[k], digits = digits[:len(parts[k])], digits[len(parts[k]):]
		}
		data := slices.Clone(parts[0])
		for _, p := range parts[1:] {
			data = append(data, summed(p...)...)
		}
		x, e := Load(data)
		if _, there := set[string(data)]; there {
			taken++
			if e != api.OK || !bytes.Equal(x.Encode(), data) {
				t.Fatalf("%v are the bytes of an index, but Load = %v, %d", data, x, e)
			}
		} else if x != nil || e != api.ErrBits {
			t.Fatalf("%v are the bytes of no index, but Load = %v, %d", data, x, e)
		}
	}
	return taken
}

// TestLoadTakesJustValues: for small sizes, of all bytes that layers and
// brackets can be, just those that some values are written as.
func TestLoadTakesJustValues(t *testing.T) {
	for _, c := range []struct{ w, n int }{{0, 0}, {0, 1}, {0, 3}, {0, 4}, {1, 1}, {1, 2}, {1, 3}, {1, 4}, {2, 3}, {2, 4}, {3, 1}, {3, 2}, {4, 2}, {8, 1}, {5, 0}} {
		set := map[string]int{}
		for number := range powerOf(1<<c.w, c.n) {
			values := numbered[uint64](number, 1<<c.w, c.n)
			if data := reference(values, nil); int(data[5]) == c.w {
				set[string(data)]++
			}
		}
		from := [][]byte{head(byte(c.w), byte(c.n), 0), make([]byte, (c.w*c.n+7)/8), make([]byte, (2*c.n+7)/8), make([]byte, (c.n+1+7)/8)}
		if taken := takesJust(t, set, from, []int{1, 2}); taken != len(set) {
			t.Errorf("w %d, n %d: Load takes %d, not the %d that there are", c.w, c.n, taken, len(set))
		}
	}
}

// TestLoadTakesJustMarks: for small sizes, of all bytes that marks can be,
// just those that some marks are written as.
func TestLoadTakesJustMarks(t *testing.T) {
	for n := range 8 {
		values := make([]uint64, n)
		sets := make([]map[string]int, n+1)
		for number := range 1 << n {
			marks := marksNumbered(number)
			m := len(marks)
			if sets[m] == nil {
				sets[m] = map[string]int{}
			}
			sets[m][string(reference(values, marks))]++
		}
		for m, set := range sets {
			brackets := make([]byte, (2*n+7)/8)
			for k := range n {
				brackets[k/8] |= 1 << (k % 8)
			}
			third := (len(marksOf(upTo(m), n)) + 7) / 8
			from := [][]byte{head(0, byte(n), byte(m)), {}, brackets, make([]byte, third)}
			if taken := takesJust(t, set, from, []int{3}); taken != len(set) {
				t.Errorf("%d marks of %d: Load takes %d, not the %d that there are", m, n, taken, len(set))
			}
		}
	}
}

// TestLoadOfDrawnBits: with right sums over any bits, Load ends, and gives
// what Encode gives again, or ErrBits.
func TestLoadOfDrawnBits(t *testing.T) {
	r := rand.New(rand.NewSource(15))
	taken := 0
	for range 6000 {
		values, marks := drawn(r)
		parts := partsOf(reference(values, marks), len(values), len(marks))
		for range 1 + r.Intn(3) {
			if part := parts[1+r.Intn(3)]; len(part) > 0 {
				disturb(r, part)
			}
		}
		data := joined(parts[0], summed(parts[1]...), summed(parts[2]...), summed(parts[3]...))
		x, e := Load(data)
		switch {
		case e == api.OK && bytes.Equal(x.Encode(), data):
			taken++
			for _, i := range append(ends(len(values)), upTo(len(values))...) {
				x.Access(i)
				x.Least(i, len(values))
				x.Before(i)
				x.After(i)
			}
		case x != nil || e != api.ErrBits:
			t.Fatalf("Load of %v = %v, %d", data, x, e)
		}
	}
	if taken == 0 || taken == 6000 {
		t.Errorf("of the drawn ones, Load takes %d", taken)
	}
}

// partsOf gives the head, and the parts without their sums.
func partsOf(data []byte, n int, m int) [][]byte {
	third := (len(marksOf(upTo(m), n)) + 7) / 8
	second := (2*n + 7) / 8
	first := len(data) - api.HeadBytes - second - third - 12
	behind := data[api.HeadBytes+first+4:]
	return [][]byte{data[:api.HeadBytes], data[api.HeadBytes:][:first], behind[:second], behind[second+4:][:third]}
}

// disturb turns a bit, or draws all, or makes all bits the same.
func disturb(r *rand.Rand, part []byte) {
	switch r.Intn(4) {
	case 0, 1:
		part[r.Intn(len(part))] ^= 1 << r.Intn(8)
	case 2:
		r.Read(part)
	default:
		b := byte(-r.Intn(2))
		for i := range part {
			part[i] = b
		}
	}
}

func TestLoadOfAnyBytes(t *testing.T) {
	r := rand.New(rand.NewSource(16))
	for range 20000 {
		data := make([]byte, r.Intn(60))
		r.Read(data)
		if known := r.Intn(6); known < len(data) {
			copy(data[:known], "STRA\x01")
		}
		if x, e := Load(data); x != nil || e < api.ErrShort || e > api.ErrHead {
			t.Fatalf("Load of %v = %v, %d", data, x, e)
		}
	}
	refuses(t, "many bytes", make([]byte, 1<<22), api.ErrMagic)
	refuses(t, "many bytes behind an index", joined(example(), make([]byte, 1<<22)), api.ErrLength)
}

// widest gives an index of the most values, of all widths, and marks.
func widest(t *testing.T) *Index {
	r := rand.New(rand.NewSource(17))
	values := make([]uint64, api.MaxValues)
	for i := range values {
		values[i] = r.Uint64() >> r.Intn(64)
	}
	values[77] = math.MaxUint64
	return mustBuild(t, values, []int{0, 1, 63, 64, 65, 127, 128, 198, 199})
}

func TestLoadTakesWhatEncodeGives(t *testing.T) {
	r := rand.New(rand.NewSource(18))
	indexes := append(someIndexes(t), widest(t))
	for range 150 {
		values, marks := drawn(r)
		indexes = append(indexes, mustBuild(t, values[:len(values)/3], marksBelow(marks, len(values)/3)), mustBuild(t, values, marks))
	}
	for k, x := range indexes {
		data := x.Encode()
		y := mustLoad(t, data)
		if again := y.Encode(); !bytes.Equal(again, data) {
			t.Fatalf("%v is read, but written as %v", data, again)
		}
		if n, _ := x.Size(); n < 50 || k < 6 {
			if now, want := answers(y), answers(x); !slices.Equal(now, want) {
				t.Fatalf("what was read of %v answers %v, not %v", data, now, want)
			}
		}
	}
}

func marksBelow(marks []int, n int) []int {
	end, _ := slices.BinarySearch(marks, n)
	return marks[:end]
}

// TestLoadedAnswersByValues: an index that was read answers as its values and
// marks say, not only as the index does that was written.
func TestLoadedAnswersByValues(t *testing.T) {
	r := rand.New(rand.NewSource(19))
	for range 100 {
		values, marks := drawn(r)
		x := mustLoad(t, reference(values, marks))
		if n, m := x.Size(); n != len(values) || m != len(marks) {
			t.Fatalf("Size = %d, %d, want %d, %d", n, m, len(values), len(marks))
		}
		for i, v := range values {
			is(t, "Access", got(x.Access(i)), ok(v))
			is(t, "Rank", got(x.Rank(v, i)), counted(values[:i], v, v))
			is(t, "Select", got(x.Select(v, 0)), sought(values, v, 0))
			is(t, "Least", got(x.Least(i, len(values))), ok(i+slices.Index(values[i:], slices.Min(values[i:]))))
			is(t, "Nth", got(x.Nth(0, i+1, i)), ok(slices.Max(values[:i+1])))
			is(t, "Count", got(x.Count(0, i+1, 0, v)), counted(values[:i+1], 0, v))
		}
		for _, p := range marks {
			is(t, "Before", got(x.Before(p)), ok(p))
			is(t, "After", got(x.After(p)), ok(p))
		}
	}
}

// turn turns the bits of a word, from a bit of the data on.
func turn(data []byte, from int, word uint32) {
	for k := range 32 {
		if word>>k&1 == 1 {
			data[(from+k)/8] ^= 1 << ((from + k) % 8)
		}
	}
}

// refusesTurned: with those bits turned, Load refuses the data.
func refusesTurned(t *testing.T, data []byte, from int, word uint32) {
	t.Helper()
	turn(data, from, word)
	if x, e := Load(data); x != nil || e < api.ErrMagic || e > api.ErrSum {
		t.Fatalf("from the bit %d on %x turned: Load = %v, %d", from, word, x, e)
	}
	turn(data, from, word)
}

// TestLoadRefusesTurnedBits: wherever a row of 32 begins, so where it lies over
// the bounds of the parts and of their sums, too.
func TestLoadRefusesTurnedBits(t *testing.T) {
	r := rand.New(rand.NewSource(20))
	for _, x := range append(someIndexes(t)[:4], mustBuild(t, []uint64{0, 0, 0}, nil), mustBuild(t, []uint64{1, 2, 3, 4, 5, 6, 7, 8, 9}, []int{0, 4, 8})) {
		data := x.Encode()
		for from := range 8*len(data) - 31 {
			for k := range 32 {
				for j := range 32 {
					refusesTurned(t, data, from, 1<<k|1<<j)
				}
				refusesTurned(t, data, from, math.MaxUint32>>k)
			}
			for range 100 {
				refusesTurned(t, data, from, 1+uint32(r.Intn(math.MaxUint32)))
			}
		}
		mustLoad(t, data)
	}
}

func TestLoadRefusesTurnedBitsOfMany(t *testing.T) {
	r := rand.New(rand.NewSource(21))
	data := widest(t).Encode()
	for from := range 8*len(data) - 31 {
		for _, word := range []uint32{1, 1 << 31, math.MaxUint32, 0xedb88320, 1 + uint32(r.Intn(math.MaxUint32))} {
			refusesTurned(t, data, from, word)
		}
	}
	mustLoad(t, data)
}

func TestLoadLeavesTheBytes(t *testing.T) {
	for _, x := range someIndexes(t) {
		was := x.Encode()
		data := slices.Concat(was, []byte{1, 2, 3})
		mustLoad(t, data[:len(was)])
		if !bytes.Equal(data, slices.Concat(was, []byte{1, 2, 3})) {
			t.Errorf("Load wrote into the bytes: %v, which were %v", data, was)
		}
		Load(data)
		if !bytes.Equal(data, slices.Concat(was, []byte{1, 2, 3})) {
			t.Errorf("Load refused the bytes and wrote into them: %v, which were %v", data, was)
		}
	}
}

func TestLoadKeepsNoBytes(t *testing.T) {
	for _, x := range someIndexes(t) {
		was := x.Encode()
		data := slices.Clone(was)
		y, z := mustLoad(t, data), mustLoad(t, data)
		were := answers(y)
		spoil(data)
		spoil(z.Encode())
		if now := y.Encode(); !bytes.Equal(now, was) {
			t.Errorf("the index hangs on bytes that are not its own: %v, not %v", now, was)
		}
		if now := answers(y); !slices.Equal(now, were) {
			t.Errorf("the index answers by bytes that are not its own: %v, not %v", now, were)
		}
	}
}

func TestNoIndexIsNotLoaded(t *testing.T) {
	none, _ := Load(nil)
	refuses(t, "the bytes of what a refused Load gave", none.Encode(), api.ErrShort)
}
