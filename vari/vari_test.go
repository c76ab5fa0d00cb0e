package vari

import (
	"bytes"
	"math"
	"slices"
	"testing"
)

// edges are 0, the least and the greatest number of each count of bytes, and some beside them.
func edges() []uint64 {
	list := []uint64{0, 1, 2, 5, 126, 127, 128, 129, 300, math.MaxInt64, 1 << 63, math.MaxUint64 - 1, math.MaxUint64}
	for shift := 7; shift < 64; shift += 7 {
		least := uint64(1) << shift
		list = append(list, least-1, least, least+1, least|1<<(shift-1))
	}
	return list
}

// broken are bytes that no number's bytes are the beginning of.
func broken() [][]byte {
	list := [][]byte{
		{128}, {255}, {128, 128}, {172}, // they end too early
		{128, 0}, {255, 0}, {172, 130, 0}, {128, 128, 0}, {128, 0, 1}, // more digits than need be
		append(bytes.Repeat([]byte{255}, 9), 2), // just too great
		append(bytes.Repeat([]byte{128}, 9), 2),
		append(bytes.Repeat([]byte{255}, 9), 127),
		append(bytes.Repeat([]byte{128}, 9), 0),
		append(bytes.Repeat([]byte{255}, 9), 129, 0),
		append(bytes.Repeat([]byte{128}, 10), 1),
		append(bytes.Repeat([]byte{128}, 64), 1), // digits at which a shift would go round
		bytes.Repeat([]byte{255}, 9),
		bytes.Repeat([]byte{255}, 10),
		bytes.Repeat([]byte{128}, 1000),
	}
	return list
}

// someBytes hands on all rows of at most so many bytes, of those that are near a bound.
func someBytes(most int, yield func([]byte)) {
	row := make([]byte, 0, most)
	var grow func()
	grow = func() {
		yield(row)
		if len(row) == most {
			return
		}
		for _, d := range []byte{0, 1, 2, 127, 128, 129, 254, 255} {
			row = append(row, d)
			grow()
			row = row[:len(row)-1]
		}
	}
	grow()
}

func TestPutByHand(t *testing.T) {
	for _, x := range []struct {
		n    uint64
		want []byte
	}{
		{0, []byte{0}},
		{1, []byte{1}},
		{127, []byte{127}},
		{128, []byte{128, 1}},
		{255, []byte{255, 1}},
		{256, []byte{128, 2}},
		{300, []byte{172, 2}},
		{16383, []byte{255, 127}},
		{16384, []byte{128, 128, 1}},
		{1 << 62, []byte{128, 128, 128, 128, 128, 128, 128, 128, 64}},
		{math.MaxInt64, []byte{255, 255, 255, 255, 255, 255, 255, 255, 127}},
		{1 << 63, []byte{128, 128, 128, 128, 128, 128, 128, 128, 128, 1}},
		{math.MaxUint64, []byte{255, 255, 255, 255, 255, 255, 255, 255, 255, 1}},
	} {
		if got := Put(x.n); !slices.Equal(got, x.want) {
			t.Errorf("Put(%d) = %v, not %v", x.n, got, x.want)
		}
	}
}

// P1.1: digits by 128 that make the number, the last one alone below 128, and as few as can be.
func TestPutDigits(t *testing.T) {
	for _, n := range edges() {
		b := Put(n)
		var sum uint64
		for i := len(b) - 1; i >= 0; i-- {
			if last := i == len(b)-1; last == (b[i] >= 128) {
				t.Errorf("Put(%d) = %v: byte %d", n, b, i)
			}
			sum = sum*128 + uint64(b[i]%128)
		}
		if sum != n {
			t.Errorf("Put(%d) = %v: its digits make %d", n, b, sum)
		}
		if len(b) > 1 && b[len(b)-1] == 0 {
			t.Errorf("Put(%d) = %v: a digit more than need be", n, b)
		}
	}
}

func TestPutCountOfBytes(t *testing.T) {
	for size := 1; size <= 10; size++ {
		least, most := uint64(0), uint64(math.MaxUint64)
		if size > 1 {
			least = 1 << (7 * (size - 1))
		}
		if size < 10 {
			most = 1<<(7*size) - 1
		}
		if a, b := len(Put(least)), len(Put(most)); a != size || b != size {
			t.Errorf("%d and %d have %d and %d bytes, not %d", least, most, a, b, size)
		}
	}
}

func TestGetWhatWasPut(t *testing.T) {
	for _, n := range edges() {
		for _, behind := range [][]byte{nil, {0}, {1}, {128}, {255, 255}, {128, 0}, bytes.Repeat([]byte{255}, 20)} {
			b := Put(n)
			size := len(b)
			if got, k := Get(append(b, behind...)); got != n || k != size {
				t.Errorf("Get of %d's bytes and %v = %d, %d, not %d, %d", n, behind, got, k, n, size)
			}
		}
	}
}

func TestGetOfNone(t *testing.T) {
	for _, b := range append(broken(), nil, []byte{}) {
		if n, k := Get(b); n != 0 || k != 0 {
			t.Errorf("Get(%v) = %d, %d, not noughts", b, n, k)
		}
	}
	for _, n := range edges() {
		b := Put(n)
		for cut := range b {
			if got, k := Get(b[:cut:cut]); got != 0 || k != 0 {
				t.Errorf("Get of %d of %d's bytes = %d, %d, not noughts", cut, n, got, k)
			}
		}
	}
}

// Get must not read what lies behind a slice's end, though there is room for it.
func TestGetStopsAtTheEnd(t *testing.T) {
	b := []byte{172, 2}
	if n, k := Get(b[:1]); n != 0 || k != 0 {
		t.Errorf("Get of the first of two bytes = %d, %d, not noughts", n, k)
	}
}

// P1.1 and P1.4, over many bytes: what Get tells has these bytes by Put, and where it tells none no number has them.
func TestGetAgainstPut(t *testing.T) {
	someBytes(4, func(b []byte) {
		n, k := Get(b)
		if k > 0 && !slices.Equal(Put(n), b[:k]) {
			t.Errorf("Get(%v) = %d, %d, but Put is %v", b, n, k, Put(n))
		}
		if k == 0 && n != 0 {
			t.Errorf("Get(%v) = %d, %d", b, n, k)
		}
		var sum uint64
		for size := 1; size <= len(b); size++ {
			sum += uint64(b[size-1]%128) << (7 * (size - 1))
			if k == 0 && slices.Equal(Put(sum), b[:size]) {
				t.Errorf("Get(%v) tells none, but it begins by the bytes of %d", b, sum)
			}
		}
	})
}

func TestZigByHand(t *testing.T) {
	for _, x := range []struct {
		n int
		u uint64
	}{
		{0, 0}, {-1, 1}, {1, 2}, {-2, 3}, {2, 4}, {63, 126}, {-64, 127}, {64, 128}, {150, 300}, {-151, 301},
		{math.MaxInt32, 1<<32 - 2}, {math.MinInt32, 1<<32 - 1},
		{math.MaxInt64 - 1, math.MaxUint64 - 3}, {math.MinInt64 + 1, math.MaxUint64 - 2},
		{math.MaxInt64, math.MaxUint64 - 1}, {math.MinInt64, math.MaxUint64},
	} {
		if got := Zig(x.n); got != x.u {
			t.Errorf("Zig(%d) = %d, not %d", x.n, got, x.u)
		}
		if got := Zag(x.u); got != x.n {
			t.Errorf("Zag(%d) = %d, not %d", x.u, got, x.n)
		}
	}
}

func TestZagOfZig(t *testing.T) {
	for n := -70000; n <= 70000; n++ {
		if got := Zag(Zig(n)); got != n {
			t.Fatalf("Zag(Zig(%d)) = %d", n, got)
		}
	}
	for _, u := range edges() {
		n := Zag(u)
		if got := Zig(n); got != u {
			t.Errorf("Zig(Zag(%d)) = %d", u, got)
		}
		if (n < 0) != (u%2 == 1) {
			t.Errorf("Zag(%d) = %d", u, n)
		}
	}
}

func TestAllByHand(t *testing.T) {
	for _, x := range []struct {
		b    []byte
		want []uint64
	}{
		{nil, nil},
		{[]byte{}, nil},
		{[]byte{0}, []uint64{0}},
		{[]byte{0, 0, 0}, []uint64{0, 0, 0}},
		{[]byte{5, 172, 2, 0}, []uint64{5, 300, 0}},
		{[]byte{172, 2, 172, 2}, []uint64{300, 300}},
		{[]byte{255, 255, 255, 255, 255, 255, 255, 255, 255, 1, 7}, []uint64{math.MaxUint64, 7}},
	} {
		if got, ok := All(x.b); !ok || !slices.Equal(got, x.want) {
			t.Errorf("All(%v) = %v, %v, not %v, true", x.b, got, ok, x.want)
		}
	}
}

func TestAllOfManyPuts(t *testing.T) {
	list := edges()
	for range 3 {
		var b []byte
		for i, n := range list {
			b = append(b, Put(n)...)
			if got, ok := All(b); !ok || !slices.Equal(got, list[:i+1]) {
				t.Fatalf("All of %d numbers' bytes = %v, %v", i+1, got, ok)
			}
		}
		slices.Reverse(list)
		list = append(list, list...)
	}
}

func TestAllOfNone(t *testing.T) {
	for _, ahead := range [][]byte{nil, {0}, {5, 172, 2}, Put(math.MaxUint64)} {
		for _, b := range broken() {
			whole := append(slices.Clone(ahead), b...)
			if got, ok := All(whole); ok || len(got) != 0 {
				t.Errorf("All(%v) = %v, %v, not nothing and false", whole, got, ok)
			}
		}
	}
	// What is behind the fault does not mend it.
	for _, b := range [][]byte{{128, 0, 5}, {5, 128, 0, 5, 6}, {255, 0, 172, 2}} {
		if got, ok := All(b); ok || len(got) != 0 {
			t.Errorf("All(%v) = %v, %v, not nothing and false", b, got, ok)
		}
	}
}

// P1.3 and P1.4, over many bytes: they are what the numbers are put as, or some beginning of a rest is none's.
func TestAllAgainstPut(t *testing.T) {
	someBytes(5, func(b []byte) {
		list, ok := All(b)
		if ok != splits(b) {
			t.Errorf("All(%v) = %v, %v", b, list, ok)
		}
		var put []byte
		for _, n := range list {
			put = append(put, Put(n)...)
		}
		if ok && !slices.Equal(put, b) || !ok && len(list) != 0 {
			t.Errorf("All(%v) = %v, %v: put as %v", b, list, ok, put)
		}
	})
}

// splits tells whether bytes can be cut into numbers' bytes: each piece ends by a digit below 128, that is 0 only alone. (Of at most nine bytes none makes too great a number.)
func splits(b []byte) bool {
	first := true
	for _, d := range b {
		if d == 0 && !first {
			return false
		}
		first = d < 128
	}
	return first
}

// P1.4: no number's bytes are the beginning of another one's.
func TestNoBeginningOfAnother(t *testing.T) {
	list := edges()
	for n := range uint64(300) {
		list = append(list, n, n*128, n*16384)
	}
	slices.Sort(list)
	list = slices.Compact(list)
	for _, a := range list {
		for _, b := range list {
			if a != b && bytes.HasPrefix(Put(b), Put(a)) {
				t.Errorf("the bytes of %d are the beginning of those of %d", a, b)
			}
		}
	}
}

// P1, R1, R3, R5: any bytes are taken, stay as they were, and are answered alike again.
func TestArgumentsStay(t *testing.T) {
	rows := append(broken(), nil, []byte{}, []byte{5, 172, 2, 0})
	someBytes(3, func(b []byte) { rows = append(rows, slices.Clone(b)) })
	for _, b := range rows {
		was := slices.Clone(b)
		n, k := Get(b)
		list, ok := All(b)
		if !slices.Equal(b, was) {
			t.Fatalf("%v became %v", was, b)
		}
		for i := range b {
			b[i] = 9
		}
		n2, k2 := Get(was)
		list2, ok2 := All(was)
		if n != n2 || k != k2 || ok != ok2 || !slices.Equal(list, list2) {
			t.Errorf("of %v: %d, %d, %v, %v, and then %d, %d, %v, %v", was, n, k, list, ok, n2, k2, list2, ok2)
		}
	}
}

// R3: what is answered is the caller's own.
func TestAnswersAreOwn(t *testing.T) {
	b := Put(300)
	b[0], b[1] = 1, 1
	if again := Put(300); !slices.Equal(again, []byte{172, 2}) {
		t.Errorf("Put(300) = %v, once an answer was changed", again)
	}
	raw := []byte{5, 172, 2}
	list, _ := All(raw)
	list[0] = 77
	if again, ok := All(raw); !ok || !slices.Equal(again, []uint64{5, 300}) {
		t.Errorf("All(%v) = %v, %v, once an answer was changed", raw, again, ok)
	}
}

func FuzzBytes(f *testing.F) {
	for _, b := range broken() {
		f.Add(b)
	}
	f.Add([]byte{5, 172, 2, 0})
	f.Fuzz(func(t *testing.T, b []byte) {
		n, k := Get(b)
		if k > 0 && !slices.Equal(Put(n), b[:k]) || k == 0 && n != 0 {
			t.Errorf("Get(%v) = %d, %d", b, n, k)
		}
		list, ok := All(b)
		var put []byte
		for _, n := range list {
			put = append(put, Put(n)...)
		}
		if ok && !slices.Equal(put, b) || !ok && len(list) != 0 {
			t.Errorf("All(%v) = %v, %v", b, list, ok)
		}
	})
}
