package crc

import (
	"hash/crc32"
	"math"
	"slices"
	"testing"
)

// turned is P2.1, word by word: bit by bit, without a table.
func turned(sum uint32, b []byte) uint32 {
	n := sum ^ math.MaxUint32
	for i := range 8 * len(b) {
		bit := uint32(b[i/8]) >> (i % 8) & 1
		one := n&1 != bit
		n /= 2
		if one {
			n ^= 3988292384
		}
	}
	return n ^ math.MaxUint32
}

// chance hands on numbers that look like chance, the same ones each time.
func chance(seed uint64) func() uint64 {
	return func() uint64 {
		seed = seed*6364136223846793005 + 1442695040888963407
		return seed >> 32
	}
}

func someBytes(size int, next func() uint64) []byte {
	b := make([]byte, size)
	for i := range b {
		b[i] = byte(next())
	}
	return b
}

// rows are bytes of many lengths: noughts, all bits, and others.
func rows() [][]byte {
	next := chance(1)
	list := [][]byte{nil, {}, []byte("123456789"), []byte("a"), []byte("abc")}
	for _, size := range []int{1, 2, 3, 4, 5, 7, 8, 9, 31, 32, 33, 255, 256, 257, 1000} {
		ones := make([]byte, size)
		for i := range ones {
			ones[i] = 255
		}
		list = append(list, make([]byte, size), ones, someBytes(size, next))
	}
	return list
}

func sums() []uint32 {
	return []uint32{0, 1, 2, 77, 255, 256, 0x7fffffff, 0x80000000, 0xedb88320, 0xcbf43926, math.MaxUint32 - 1, math.MaxUint32}
}

// flip turns round bits of bytes, from a place on: those that are 1 in the pattern, its lowest one first. It tells whether all of them are there.
func flip(b []byte, from int, pattern uint32) bool {
	for i := range 32 {
		if pattern>>i&1 == 0 {
			continue
		}
		at := from + i
		if at >= 8*len(b) {
			return false
		}
		b[at/8] ^= 1 << (at % 8)
	}
	return true
}

func TestSumByHand(t *testing.T) {
	for _, x := range []struct {
		b    []byte
		want uint32
	}{
		{nil, 0},
		{[]byte{}, 0},
		{[]byte{49, 50, 51, 52, 53, 54, 55, 56, 57}, 3421780262},
		{[]byte{0}, 0xd202ef8d},
		{[]byte{255}, 0xff000000},
		{[]byte{0, 0, 0, 0}, 0x2144df1c},
		{[]byte{255, 255, 255, 255}, 0xffffffff},
		{[]byte("a"), 0xe8b7be43},
		{[]byte("abc"), 0x352441c2},
	} {
		if got := Sum(x.b); got != x.want {
			t.Errorf("Sum(%v) = %d, not %d", x.b, got, x.want)
		}
	}
}

// P2.1: each byte alone, which is each row of the table.
func TestWithOfEachByte(t *testing.T) {
	for d := range 256 {
		b := []byte{byte(d)}
		for _, sum := range sums() {
			if got, want := With(sum, b), turned(sum, b); got != want {
				t.Errorf("With(%d, %v) = %d, not %d", sum, b, got, want)
			}
		}
	}
}

func TestWithBitByBit(t *testing.T) {
	for _, b := range rows() {
		for _, sum := range sums() {
			if got, want := With(sum, b), turned(sum, b); got != want {
				t.Errorf("With(%d, %v) = %d, not %d", sum, b, got, want)
			}
		}
		if got, want := Sum(b), turned(0, b); got != want {
			t.Errorf("Sum(%v) = %d, not %d", b, got, want)
		}
	}
}

func TestWithAgainstLibrary(t *testing.T) {
	next := chance(2)
	for size := range 600 {
		b, sum := someBytes(size, next), uint32(next())
		if got, want := With(sum, b), crc32.Update(sum, crc32.IEEETable, b); got != want {
			t.Errorf("With(%d, %v) = %d, not %d", sum, b, got, want)
		}
	}
}

func TestWithOfNoBytes(t *testing.T) {
	for _, sum := range sums() {
		if a, b := With(sum, nil), With(sum, []byte{}); a != sum || b != sum {
			t.Errorf("With of %d and no bytes = %d, %d", sum, a, b)
		}
	}
}

// P2.3, the first half: parts cut anywhere.
func TestWithOfParts(t *testing.T) {
	for _, b := range rows() {
		for cut := 0; cut <= len(b); cut++ {
			if got, want := With(Sum(b[:cut]), b[cut:]), Sum(b); got != want {
				t.Errorf("%v cut at %d: %d, not %d", b, cut, got, want)
			}
		}
		for _, sum := range sums() {
			one := sum
			for i := range b {
				one = With(one, b[i:i+1])
			}
			third := len(b) / 3
			three := With(With(With(sum, b[:third]), b[third:2*third]), b[2*third:])
			if want := With(sum, b); one != want || three != want {
				t.Errorf("%v from %d on: byte by byte %d, by thirds %d, not %d", b, sum, one, three, want)
			}
		}
	}
}

func TestSealByHand(t *testing.T) {
	for _, x := range []struct{ b, want []byte }{
		{nil, []byte{0, 0, 0, 0}},
		{[]byte{}, []byte{0, 0, 0, 0}},
		{[]byte{0}, []byte{0, 0x8d, 0xef, 0x02, 0xd2}},
		{[]byte("abc"), []byte{'a', 'b', 'c', 0xc2, 0x41, 0x24, 0x35}},
		{[]byte("123456789"), append([]byte("123456789"), 0x26, 0x39, 0xf4, 0xcb)},
	} {
		if got := Seal(x.b); !slices.Equal(got, x.want) {
			t.Errorf("Seal(%v) = %v, not %v", x.b, got, x.want)
		}
		if !Good(x.want) {
			t.Errorf("%v is not Good", x.want)
		}
	}
}

func TestSealIsGood(t *testing.T) {
	for _, b := range rows() {
		sealed, sum := Seal(b), turned(0, b)
		want := append(slices.Clone(b), byte(sum), byte(sum/256), byte(sum/65536), byte(sum/16777216))
		if !slices.Equal(sealed, want) {
			t.Errorf("Seal(%v) = %v, not %v", b, sealed, want)
		}
		if !Good(sealed) {
			t.Errorf("Seal(%v) is not Good", b)
		}
		if twice := Seal(sealed); !Good(twice) || len(twice) != len(b)+8 {
			t.Errorf("%v sealed twice: %v", b, twice)
		}
	}
}

func TestTooFewBytes(t *testing.T) {
	for d := range 256 {
		row := []byte{byte(d), byte(d), byte(d)}
		for size := range 4 {
			if Good(row[:size]) {
				t.Errorf("%v is Good", row[:size])
			}
		}
	}
	// Fewer than four bytes are too few, though there is room for more behind them.
	b := make([]byte, 4)
	if Good(b[:3]) || Good(b[:0]) || Good(nil) || !Good(b) {
		t.Error("noughts: just four of them are Good")
	}
}

// Four bytes are those of the sum of none: noughts alone.
func TestFourBytes(t *testing.T) {
	for i := range 32 {
		b := make([]byte, 4)
		flip(b, i, 1)
		if Good(b) {
			t.Errorf("%v is Good", b)
		}
	}
}

// The sum's bytes must stand in their order, and at the end.
func TestNotGood(t *testing.T) {
	for _, b := range [][]byte{
		[]byte("123456789"),
		append([]byte("123456789"), 0xcb, 0xf4, 0x39, 0x26),
		append([]byte{0x26, 0x39, 0xf4, 0xcb}, "123456789"...),
		append([]byte("123456789"), 0x26, 0x39, 0xf4, 0xcb, 0),
		append([]byte("123456789"), 0x26, 0x39, 0xf4),
		append([]byte("123456789"), 0xd9, 0xc6, 0x0b, 0x34),
		{255, 255, 255, 255},
		{0, 0, 0, 0, 0},
	} {
		if Good(b) {
			t.Errorf("%v is Good", b)
		}
	}
}

// P2.3, the second half, at each place: patterns of one to three bits, runs, all of 32 bits, and many others.
func TestOtherBitsAreNotGood(t *testing.T) {
	next := chance(3)
	patterns := []uint32{math.MaxUint32, 0x80000001, 0x55555555, 0xaaaaaaaa, 0xedb88320, 0x04c11db7}
	for i := range 32 {
		patterns = append(patterns, 1<<i, 1<<i-1|1<<31, math.MaxUint32>>i)
		for j := range i {
			patterns = append(patterns, 1<<i|1<<j, 1<<i|1<<j|1)
		}
	}
	for range 1000 {
		patterns = append(patterns, uint32(next())|1)
	}
	for _, body := range [][]byte{nil, {0}, {7}, []byte("123456789"), make([]byte, 20), someBytes(30, next)} {
		good := Seal(body)
		for from := range 8 * len(good) {
			for _, pattern := range patterns {
				b := slices.Clone(good)
				if flip(b, from, pattern) && Good(b) {
					t.Fatalf("%v became %v, and is Good", good, b)
				}
			}
		}
	}
}

// P2.3: all patterns of some sixteen bits, one behind the other, and one bit at the far end of the 32.
func TestOtherBitsAllOfThem(t *testing.T) {
	good := Seal([]byte("abc"))
	b := make([]byte, len(good))
	for _, from := range []int{0, 5, 8, 23, 24} {
		for low := range uint32(1 << 16) {
			for _, pattern := range []uint32{low | 1, low | 1<<31, low<<16 | 1} {
				copy(b, good)
				if flip(b, from, pattern) && Good(b) {
					t.Fatalf("%v became %v, and is Good", good, b)
				}
			}
		}
	}
}

// P1, R1, R3, R5: any bytes are taken, stay as they were, and are answered alike again.
func TestArgumentsStay(t *testing.T) {
	for _, row := range rows() {
		// With room behind the end: what is put there would be the caller's.
		b := append(slices.Clone(row), 9, 9, 9, 9, 9, 9, 9, 9)[:len(row)]
		all := b[:len(row)+8]
		was := slices.Clone(all)
		sum, with, sealed, good := Sum(b), With(5, b), Seal(b), Good(b)
		if !slices.Equal(all, was) {
			t.Fatalf("%v became %v", was, all)
		}
		keep := slices.Clone(sealed)
		for i := range all {
			all[i] = 3
		}
		if !slices.Equal(sealed, keep) {
			t.Errorf("Seal(%v) became %v when what was sealed was changed", row, sealed)
		}
		if sum != Sum(row) || with != With(5, row) || !slices.Equal(sealed, Seal(row)) || good != Good(row) {
			t.Errorf("of %v: %d, %d, %v, %v, and then others", row, sum, with, sealed, good)
		}
	}
}

// R3: what is answered is the caller's own.
func TestAnswersAreOwn(t *testing.T) {
	for _, b := range [][]byte{nil, []byte("abc")} {
		want := slices.Clone(Seal(b))
		sealed := Seal(b)
		for i := range sealed {
			sealed[i] = 77
		}
		_ = append(sealed[:0], 1, 2, 3)
		if again := Seal(b); !slices.Equal(again, want) {
			t.Errorf("Seal(%v) = %v, once an answer was changed", b, again)
		}
	}
}

func FuzzBytes(f *testing.F) {
	f.Add([]byte("123456789"), uint32(0), 3, uint32(5))
	f.Add([]byte{}, uint32(math.MaxUint32), 0, uint32(1))
	f.Fuzz(func(t *testing.T, b []byte, sum uint32, from int, pattern uint32) {
		if got, want := With(sum, b), turned(sum, b); got != want {
			t.Errorf("With(%d, %v) = %d, not %d", sum, b, got, want)
		}
		sealed := Seal(b)
		if !Good(sealed) {
			t.Errorf("Seal(%v) = %v is not Good", b, sealed)
		}
		if from < 0 || from >= 8*len(sealed) || pattern == 0 {
			return
		}
		if other := slices.Clone(sealed); flip(other, from, pattern) && Good(other) {
			t.Errorf("%v became %v, and is Good", sealed, other)
		}
	})
}
