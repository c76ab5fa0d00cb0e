package value

import (
	"bytes"
	"encoding/binary"
	"math"
	"math/big"
	"slices"
	"strings"
	"testing"
	"unsafe"

	"foliate/api"
)

func of(kind int) api.Field    { return api.Field{Name: "n", Kind: kind} }
func num(n int) api.Val        { return api.Val{N: n} }
func text(s string) api.Val    { return api.Val{S: s} }
func lead(r int) api.Val       { return api.Val{R: r} }
func byteRow(b ...byte) []byte { return b }

// odd are kinds that are none, also such whose last bits are one's.
func odd() []int {
	return []int{-1, 6, 7, 8, -2, -5, -6, 100, -128, 127, 255, 256, 257, 260, 261, 1 << 16, 1<<16 + 4, 1 << 32, 1<<32 + 1, 1<<32 + 5, math.MinInt, math.MinInt + 4, math.MinInt + 5, math.MaxInt}
}

// kinds are all that are, and those that are none.
func kinds() []int { return append([]int{0, 1, 2, 3, 4, 5}, odd()...) }

// numbers are those about each power of 2 and its opposite, so the least and the greatest of each count of bits, and some more.
func numbers() []int {
	list := []int{0, 3, -3, 5, -5, 100, -100, 150, -151, 200, -200, 1000, 99999, -99999}
	for bit := range 64 {
		p := 1 << bit
		list = append(list, p-2, p-1, p, p+1, -p-2, -p-1, -p, -p+1)
	}
	slices.Sort(list)
	return slices.Compact(list)
}

// texts are of no byte up to 14, and of many; of signs of one byte and of more, and of bytes that are no sign's.
func texts() []string {
	list := []string{"a", "\x00", "\xff", "\x80", "a\xff", "\xc3", "\xc3\xa4", "\u00e4", "\x00\x00\x00", "0", "\n", "\ufffd", "\U0001f600"}
	for _, p := range []string{"x", "\x00", "\xff", "\x80", "\xa4"} {
		for n := range 15 {
			list = append(list, strings.Repeat(p, n))
		}
		list = append(list, strings.Repeat(p, 127), strings.Repeat(p, 128), strings.Repeat(p, 256), strings.Repeat(p, 1000))
	}
	for n := range 8 {
		list = append(list, strings.Repeat("\u00e4", n), strings.Repeat("\u00e4", n)+"\xc3", "a"+strings.Repeat("\u00e4", n), strings.Repeat("\u20ac", n))
	}
	slices.Sort(list)
	return slices.Compact(list)
}

// within tells whether n is from -2^(bits-1) to 2^(bits-1) less 1.
func within(n int, bits uint) bool {
	half := new(big.Int).Lsh(big.NewInt(1), bits-1)
	x := big.NewInt(int64(n))
	return x.Cmp(new(big.Int).Neg(half)) >= 0 && x.Cmp(half) < 0
}

// fitsOf is P7.1, word by word.
func fitsOf(f api.Field, v api.Val) bool {
	switch f.Kind {
	case 0, 1, 2, 3:
		return within(v.N, []uint{8, 16, 32, 64}[f.Kind]) && v.S == "" && v.R == 0
	case 4:
		return len(v.S) <= 12 && v.N == 0 && v.R == 0
	case 5:
		return v.R >= -1 && v.R <= 1073741824 && v.N == 0 && v.S == ""
	}
	return false
}

// putOf is P7.3's Put, made of the library's numbers.
func putOf(f api.Field, v api.Val) ([]byte, bool) {
	switch {
	case !fitsOf(f, v):
		return nil, false
	case f.Kind == 4:
		return append(binary.AppendUvarint(nil, uint64(len(v.S))), v.S...), true
	case f.Kind == 5:
		return binary.AppendUvarint(nil, uint64(v.R+1)), true
	}
	return binary.AppendVarint(nil, int64(v.N)), true
}

// getOf is P7.3's Get: the one value that could be is guessed, put again, and held against what b begins by.
func getOf(f api.Field, b []byte) (api.Val, int, bool) {
	n, size := binary.Uvarint(b)
	guess := api.Val{}
	switch {
	case size <= 0:
		return api.Val{}, 0, false
	case f.Kind == 4 && n <= uint64(len(b)-size):
		guess = text(string(b[size : size+int(n)]))
	case f.Kind == 5 && n < math.MaxInt32:
		guess = lead(int(n) - 1)
	case f.Kind >= 0 && f.Kind < 4:
		signed, _ := binary.Varint(b)
		guess = num(int(signed))
	default:
		return api.Val{}, 0, false
	}
	put, fits := putOf(f, guess)
	if !fits || !bytes.HasPrefix(b, put) {
		return api.Val{}, 0, false
	}
	return guess, len(put), true
}

// pair is a field, and a value.
type pair struct {
	f api.Field
	v api.Val
}

// fitting are values that fit, of each kind.
func fitting() []pair {
	var list []pair
	for kind := range 6 {
		for _, n := range numbers() {
			list = append(list, pair{of(kind), num(n)}, pair{of(kind), lead(n)})
		}
		for _, s := range texts() {
			list = append(list, pair{of(kind), text(s)})
		}
	}
	return slices.DeleteFunc(list, func(p pair) bool { return !fitsOf(p.f, p.v) })
}

// broken are bytes that begin by no number's.
func broken() [][]byte {
	list := [][]byte{
		nil, {},
		{128}, {255}, {128, 128}, {172}, // they end too early
		{128, 0}, {255, 0}, {172, 130, 0}, {128, 128, 0}, {128, 0, 1}, {129, 0, 'a'}, {129, 128, 128, 128, 132, 0}, // in more bytes than need be
		append(bytes.Repeat([]byte{255}, 9), 2), // too great for 64 bits
		append(bytes.Repeat([]byte{128}, 9), 2),
		append(bytes.Repeat([]byte{128}, 9), 3),
		append(bytes.Repeat([]byte{255}, 9), 127),
		append(bytes.Repeat([]byte{128}, 9), 0),
		append(bytes.Repeat([]byte{255}, 9), 129, 0),
		append(bytes.Repeat([]byte{128}, 10), 1),
		append(bytes.Repeat([]byte{128}, 64), 1),
	}
	for _, n := range []int{9, 10, 11, 12, 13, 14, 20, 64, 1000} {
		list = append(list, bytes.Repeat([]byte{255}, n), bytes.Repeat([]byte{128}, n))
	}
	return list
}

// behinds are what may stand behind.
func behinds() [][]byte {
	return [][]byte{
		nil, {}, {0}, {1}, {5}, {127}, {128}, {255}, {128, 0}, {0, 0, 0}, {172, 2}, []byte("abc"), {255, 255, 255, 255, 1},
		bytes.Repeat([]byte{0}, 20), bytes.Repeat([]byte{255}, 20), bytes.Repeat([]byte{128}, 20), bytes.Repeat([]byte("a"), 300),
	}
}

// someBytes hands on all rows of at most so many bytes, of those that are near a bound.
func someBytes(most int, yield func([]byte)) {
	row := make([]byte, 0, most)
	var grow func()
	grow = func() {
		yield(row)
		if len(row) == most {
			return
		}
		for _, d := range []byte{0, 1, 2, 3, 4, 12, 13, 127, 128, 129, 254, 255} {
			row = append(row, d)
			grow()
			row = row[:len(row)-1]
		}
	}
	grow()
}

// chance hands on numbers that look like chance, the same ones each time.
func chance(seed uint64) func(below int) int {
	return func(below int) int {
		seed = seed*6364136223846793005 + 1442695040888963407
		return int(seed >> 33 % uint64(below))
	}
}

func wantFits(t testing.TB, f api.Field, v api.Val, want bool) {
	t.Helper()
	if got := Fits(f, v); got != want {
		t.Errorf("Fits(%#v, %#v) = %v", f, v, got)
	}
}

func wantPut(t testing.TB, f api.Field, v api.Val, want []byte) {
	t.Helper()
	if b, ok := Put(f, v); !ok || !slices.Equal(b, want) {
		t.Errorf("Put(%#v, %#v) = %v, %v, not %v, true", f, v, b, ok, want)
	}
}

func wantNoPut(t testing.TB, f api.Field, v api.Val) {
	t.Helper()
	if b, ok := Put(f, v); ok || len(b) != 0 {
		t.Errorf("Put(%#v, %#v) = %v, %v, not nothing and false", f, v, b, ok)
	}
}

func wantGet(t testing.TB, f api.Field, b []byte, v api.Val, size int) {
	t.Helper()
	if got, n, ok := Get(f, b); !ok || got != v || n != size {
		t.Errorf("Get(%#v, %v) = %#v, %d, %v, not %#v, %d, true", f, b, got, n, ok, v, size)
	}
}

func wantNoGet(t testing.TB, f api.Field, b []byte) {
	t.Helper()
	if got, n, ok := Get(f, b); ok || n != 0 || got != (api.Val{}) {
		t.Errorf("Get(%#v, %v) = %#v, %d, %v, not noughts and false", f, b, got, n, ok)
	}
}

// wantAsSaid holds Get against the words, and tells whether there is a value.
func wantAsSaid(t testing.TB, f api.Field, b []byte) bool {
	t.Helper()
	v, size, ok := getOf(f, b)
	if ok {
		wantGet(t, f, b, v, size)
	} else {
		wantNoGet(t, f, b)
	}
	return ok
}

// P7.1, by hand: the least and the greatest of each kind, and those one beyond.
func TestFitsNumbers(t *testing.T) {
	for _, x := range []struct{ kind, least, most int }{
		{0, -128, 127}, {1, -32768, 32767}, {2, -2147483648, 2147483647},
	} {
		for _, n := range []int{x.least, x.least + 1, -1, 0, 1, x.most - 1, x.most} {
			wantFits(t, of(x.kind), num(n), true)
		}
		for _, n := range []int{x.least - 1, x.least - 2, 2 * x.least, x.most + 1, x.most + 2, 2*x.most + 1, 2*x.most + 2, math.MinInt64, math.MinInt64 + 1, math.MaxInt64, math.MaxInt64 - 1} {
			wantFits(t, of(x.kind), num(n), false)
		}
	}
	for _, n := range []int{math.MinInt64, math.MinInt64 + 1, math.MinInt32 - 1, -1, 0, 1, math.MaxInt32 + 1, math.MaxInt64 - 1, math.MaxInt64} {
		wantFits(t, of(3), num(n), true)
	}
}

// P7.1: all numbers about those of 8 and of 16 bits.
func TestFitsAllSmallNumbers(t *testing.T) {
	for n := -70000; n <= 70000; n++ {
		wantFits(t, of(0), num(n), n >= -128 && n <= 127)
		wantFits(t, of(1), num(n), n >= -32768 && n <= 32767)
		wantFits(t, of(2), num(n), true)
		wantFits(t, of(3), num(n), true)
	}
}

// P7.1: texts by their bytes, whether these are some signs' or none's.
func TestFitsTexts(t *testing.T) {
	for _, p := range []string{"a", "\x00", "\xff", "\x80", "\xc3"} {
		for n := range 40 {
			wantFits(t, of(4), text(strings.Repeat(p, n)), n <= 12)
		}
	}
	for s, want := range map[string]bool{
		"": true, "123456789012": true, "1234567890123": false,
		"\u00e4\u00e4\u00e4\u00e4\u00e4\u00e4": true, "\u00e4\u00e4\u00e4\u00e4\u00e4\u00e4\u00e4": false, "\u00e4\u00e4\u00e4\u00e4\u00e4\u00e4a": false, "a\u00e4\u00e4\u00e4\u00e4\u00e4\u00e4": false,
		"\U0001f600\U0001f600\U0001f600": true, "\U0001f600\U0001f600\U0001f600\U0001f600": false, "\u20ac\u20ac\u20ac\u20ac": true, "\u20ac\u20ac\u20ac\u20ac\xff": false,
		strings.Repeat("a", 255): false, strings.Repeat("a", 256): false, strings.Repeat("a", 256+12): false, strings.Repeat("a", 1<<16): false,
	} {
		wantFits(t, of(4), text(s), want)
	}
}

// P7.1: Refs.
func TestFitsRefs(t *testing.T) {
	for _, r := range []int{-1, 0, 1, 2, 127, 128, 1<<30 - 1, 1 << 30} {
		wantFits(t, of(5), lead(r), true)
	}
	for _, r := range []int{-2, -3, -128, -1 << 30, 1<<30 + 1, 1 << 31, 1<<32 - 1, 1 << 32, 1<<32 + 5, -1 << 32, math.MinInt64, math.MaxInt64, math.MaxInt64 - 1} {
		wantFits(t, of(5), lead(r), false)
	}
}

// P7.1: another part is set, one at a time.
func TestFitsOtherParts(t *testing.T) {
	for _, n := range []int{1, -1, 2, 127, 256, 1 << 16, 1 << 32, math.MinInt64, math.MaxInt64} {
		for kind := range 4 {
			for _, own := range []int{0, 1, -1, 100} {
				wantFits(t, of(kind), api.Val{N: own}, true)
				wantFits(t, of(kind), api.Val{N: own, R: n}, false)
			}
		}
		for _, s := range []string{"", "a", "123456789012"} {
			wantFits(t, of(4), api.Val{S: s}, true)
			wantFits(t, of(4), api.Val{S: s, N: n}, false)
			wantFits(t, of(4), api.Val{S: s, R: n}, false)
		}
		for _, r := range []int{-1, 0, 1, 1 << 30} {
			wantFits(t, of(5), api.Val{R: r}, true)
			wantFits(t, of(5), api.Val{R: r, N: n}, false)
		}
	}
	for _, s := range []string{"a", "\x00", "\xff", " ", "0", "123456789012", "1234567890123"} {
		for kind := range 4 {
			for _, own := range []int{0, 1, -1, 100} {
				wantFits(t, of(kind), api.Val{N: own, S: s}, false)
			}
		}
		for _, r := range []int{-1, 0, 1, 1 << 30} {
			wantFits(t, of(5), api.Val{R: r, S: s}, false)
		}
	}
}

// P7.1 to P7.3: of a kind that is none nothing fits, is put, or read.
func TestKindsThatAreNone(t *testing.T) {
	for _, kind := range odd() {
		f := of(kind)
		for _, v := range []api.Val{{}, num(1), num(-1), text("a"), lead(-1), lead(1), Zero(f)} {
			wantFits(t, f, v, false)
			wantNoPut(t, f, v)
		}
		for _, b := range append(broken(), byteRow(0), byteRow(1), byteRow(1, 'a'), byteRow(2, 'a', 'b'), byteRow(0, 0, 0), byteRow(172, 2)) {
			wantNoGet(t, f, b)
		}
	}
}

// P7.1 to P7.3: a field's Name and To have no say.
func TestAnyNameAndTo(t *testing.T) {
	names := []string{"", "n", "1", "A", "\xff", "a.b", "i8", "*", strings.Repeat("a", 1000)}
	for _, kind := range kinds() {
		for _, v := range []api.Val{{}, num(1), num(-128), num(128), text("a"), text("1234567890123"), lead(-1), lead(5), {N: 1, S: "a", R: 1}} {
			put, fits := putOf(of(kind), v)
			for _, n := range names {
				for _, to := range names {
					f := api.Field{Name: n, Kind: kind, To: to}
					wantFits(t, f, v, fits)
					if Zero(f) != Zero(of(kind)) {
						t.Errorf("Zero(%#v) = %v", f, Zero(f))
					}
					if !fits {
						wantNoPut(t, f, v)
						continue
					}
					wantPut(t, f, v, put)
					wantGet(t, f, put, v, len(put))
				}
			}
		}
	}
}

// P7.1, over many values: all parts, put together.
func TestFitsAgainstTheWords(t *testing.T) {
	count := map[int]int{}
	try := func(f api.Field, v api.Val) {
		want := fitsOf(f, v)
		if want {
			count[f.Kind]++
		}
		wantFits(t, f, v, want)
	}
	small := []int{0, 1, -1, 2, -2, 127, 128, -128, -129, 1 << 30, 1<<30 + 1, math.MinInt64, math.MaxInt64}
	for _, kind := range kinds() {
		for _, n := range numbers() {
			try(of(kind), num(n))
			try(of(kind), lead(n))
			try(of(kind), api.Val{N: n, R: n})
		}
		for _, s := range texts() {
			for _, n := range small {
				for _, r := range small {
					try(of(kind), api.Val{N: n, S: s, R: r})
				}
			}
		}
	}
	for kind := range 6 {
		if count[kind] < 30 {
			t.Errorf("only %d values that fit kind %d were tried", count[kind], kind)
		}
	}
}

// P7.2: each kind, and kinds that are none.
func TestZero(t *testing.T) {
	for _, kind := range kinds() {
		want := api.Val{}
		if kind == 5 {
			want.R = -1
		}
		if got := Zero(of(kind)); got != want {
			t.Errorf("Zero of kind %d = %v", kind, got)
		}
		if is := kind >= 0 && kind <= 5; Fits(of(kind), Zero(of(kind))) != is {
			t.Errorf("whether the Zero of kind %d fits is not %v", kind, is)
		}
	}
}

// P7.3, by hand, both ways.
func TestPutAndGet(t *testing.T) {
	for _, x := range []struct {
		kind int
		v    api.Val
		b    []byte
	}{
		{0, num(-1), byteRow(1)}, // the chapter's example
		{0, num(0), byteRow(0)}, {0, num(1), byteRow(2)}, {0, num(-2), byteRow(3)}, {0, num(63), byteRow(126)}, {0, num(-64), byteRow(127)}, {0, num(64), byteRow(128, 1)},
		{0, num(127), byteRow(254, 1)}, {0, num(-128), byteRow(255, 1)},
		{1, num(128), byteRow(128, 2)}, {1, num(-129), byteRow(129, 2)}, {1, num(150), byteRow(172, 2)}, {1, num(32767), byteRow(254, 255, 3)}, {1, num(-32768), byteRow(255, 255, 3)},
		{2, num(32768), byteRow(128, 128, 4)}, {2, num(-32769), byteRow(129, 128, 4)}, {2, num(2147483647), byteRow(254, 255, 255, 255, 15)}, {2, num(-2147483648), byteRow(255, 255, 255, 255, 15)},
		{3, num(2147483648), byteRow(128, 128, 128, 128, 16)}, {3, num(-2147483649), byteRow(129, 128, 128, 128, 16)},
		{3, num(math.MaxInt64), byteRow(254, 255, 255, 255, 255, 255, 255, 255, 255, 1)}, {3, num(math.MinInt64), byteRow(255, 255, 255, 255, 255, 255, 255, 255, 255, 1)},
		{4, text(""), byteRow(0)}, {4, text("a"), byteRow(1, 97)}, {4, text("ab"), byteRow(2, 97, 98)}, {4, text("\x00"), byteRow(1, 0)}, {4, text("\xff\x80"), byteRow(2, 255, 128)}, {4, text("\u00e4"), byteRow(2, 195, 164)},
		{4, text("123456789012"), byteRow(12, 49, 50, 51, 52, 53, 54, 55, 56, 57, 48, 49, 50)},
		{5, lead(-1), byteRow(0)}, {5, lead(0), byteRow(1)}, {5, lead(1), byteRow(2)}, {5, lead(126), byteRow(127)}, {5, lead(127), byteRow(128, 1)}, {5, lead(299), byteRow(172, 2)},
		{5, lead(1<<30 - 1), byteRow(128, 128, 128, 128, 4)}, {5, lead(1 << 30), byteRow(129, 128, 128, 128, 4)},
	} {
		wantFits(t, of(x.kind), x.v, true)
		wantPut(t, of(x.kind), x.v, x.b)
		wantGet(t, of(x.kind), x.b, x.v, len(x.b))
	}
	wantNoPut(t, of(0), num(128)) // the chapter's other example
}

// P7.3: all that fits is put as the words say, and read back, and nothing else is put.
func TestPutAgainstTheWords(t *testing.T) {
	try := func(f api.Field, v api.Val) {
		want, fits := putOf(f, v)
		if !fits {
			wantNoPut(t, f, v)
			return
		}
		wantPut(t, f, v, want)
		wantGet(t, f, want, v, len(want))
	}
	for _, kind := range kinds() {
		for _, n := range numbers() {
			try(of(kind), num(n))
			try(of(kind), lead(n))
			try(of(kind), api.Val{N: n, R: 1})
			try(of(kind), api.Val{N: 1, R: n})
			try(of(kind), api.Val{S: "a", R: n})
			try(of(kind), api.Val{S: "a", N: n})
		}
		for _, s := range texts() {
			try(of(kind), text(s))
			try(of(kind), api.Val{S: s, N: 1})
			try(of(kind), api.Val{S: s, R: -1})
		}
	}
	for n := -33000; n <= 33000; n++ {
		for kind := range 4 {
			try(of(kind), num(n))
		}
		try(of(5), lead(n))
	}
}

// P7.4: what is put is read, whatever stands behind.
func TestReadWhateverIsBehind(t *testing.T) {
	for _, x := range fitting() {
		b, ok := Put(x.f, x.v)
		if !ok {
			t.Fatalf("Put(%#v, %#v) is none", x.f, x.v)
		}
		for _, more := range behinds() {
			wantGet(t, x.f, slices.Concat(b, more), x.v, len(b))
		}
	}
}

// P7.4: values of all kinds, one behind the other.
func TestReadOneBehindTheOther(t *testing.T) {
	list := fitting()
	next := chance(74)
	for range 200 {
		var row []pair
		var b []byte
		for range 30 {
			x := list[next(len(list))]
			put, _ := Put(x.f, x.v)
			row, b = append(row, x), append(b, put...)
		}
		for _, x := range row {
			put, _ := putOf(x.f, x.v)
			wantGet(t, x.f, b, x.v, len(put))
			_, size, _ := Get(x.f, b)
			b = b[size:]
		}
		if len(b) != 0 {
			t.Fatalf("%d bytes are left", len(b))
		}
	}
}

// P7.3: what is put, cut anywhere, is none's, also if what is cut off still lies behind.
func TestGetOfCutBytes(t *testing.T) {
	for _, x := range fitting() {
		b, _ := Put(x.f, x.v)
		for cut := range b {
			wantNoGet(t, x.f, b[:cut])
			wantNoGet(t, x.f, b[:cut:cut])
		}
	}
}

// P7.3: bytes that begin by no number's are none's, of no kind.
func TestGetOfNoNumber(t *testing.T) {
	for _, b := range broken() {
		for _, kind := range kinds() {
			wantNoGet(t, of(kind), b)
		}
	}
}

// P7.3: a number in more bytes than it needs, of each value.
func TestGetOfMoreBytesThanNeedBe(t *testing.T) {
	for _, x := range fitting() {
		b, _ := putOf(x.f, x.v)
		_, size := binary.Uvarint(b)
		for more := range 3 {
			long := slices.Concat(b[:size-1], byteRow(b[size-1]+128), bytes.Repeat(byteRow(128), more), byteRow(0), b[size:])
			wantNoGet(t, x.f, long)
			wantNoGet(t, x.f, append(long, 0, 0, 0))
		}
	}
}

// P7.3: a number that is too great for the kind, or too low.
func TestGetOfTooGreatNumbers(t *testing.T) {
	for kind, bits := range []int{8, 16, 32} {
		for _, n := range []uint64{1 << bits, 1<<bits + 1, 1<<bits + 2, 1 << (bits + 1), 1<<(bits+8) + 4, 1 << 40, 1<<40 + 1, 1 << 63, math.MaxUint64 - 1, math.MaxUint64} {
			b := binary.AppendUvarint(nil, n)
			wantNoGet(t, of(kind), b)
			wantNoGet(t, of(kind), append(b, 0))
			wantGet(t, of(3), b, num(int(n>>1)^-int(n&1)), len(b))
		}
		for _, n := range []uint64{1<<bits - 1, 1<<bits - 2} {
			b := binary.AppendUvarint(nil, n)
			wantGet(t, of(kind), b, num(int(n>>1)^-int(n&1)), len(b))
		}
	}
}

// P7.3: all numbers about those of 8 and of 16 bits.
func TestGetOfAllSmallNumbers(t *testing.T) {
	for n := range uint64(1 << 18) {
		b := binary.AppendUvarint(nil, n)
		for kind := range 6 {
			wantAsSaid(t, of(kind), b)
		}
	}
}

// P7.3: a Ref beyond 2^30 and 1.
func TestGetOfTooGreatRefs(t *testing.T) {
	for _, n := range []uint64{1<<30 + 2, 1<<30 + 3, 1 << 31, 1<<31 + 1, 1<<32 - 1, 1 << 32, 1<<32 + 1, 1<<32 + 2, 1<<33 + 5, 1<<63 - 1, 1 << 63, 1<<63 + 1, 1<<63 + 2, math.MaxUint64 - 1, math.MaxUint64} {
		b := binary.AppendUvarint(nil, n)
		wantNoGet(t, of(5), b)
		wantNoGet(t, of(5), append(b, 0, 0))
	}
	wantGet(t, of(5), byteRow(129, 128, 128, 128, 4), lead(1<<30), 5)
	wantGet(t, of(5), byteRow(128, 128, 128, 128, 4), lead(1<<30-1), 5)
}

// P7.3: a Text of 13 bytes and more, and one that has fewer bytes than it says.
func TestGetOfTexts(t *testing.T) {
	const letters = "abcdefghijklmnopqrstuvwxyz"
	for says := range uint64(26) {
		for has := range 26 {
			b := append(binary.AppendUvarint(nil, says), letters[:has]...)
			if says <= 12 && says <= uint64(has) {
				wantGet(t, of(4), b, text(letters[:says]), int(says)+1)
			} else {
				wantNoGet(t, of(4), b)
				wantNoGet(t, of(4), slices.Clip(b))
			}
		}
	}
	for _, says := range []uint64{127, 128, 200, 255, 256, 257, 256 + 12, 1 << 16, 1<<16 + 1, 1<<31 - 1, 1 << 31, 1 << 32, 1<<32 + 1, 1<<32 + 12, 1<<63 - 1, 1 << 63, 1<<63 + 1, math.MaxUint64 - 12, math.MaxUint64 - 1, math.MaxUint64} {
		for _, has := range []int{0, 1, 12, 13, 300, 70000} {
			wantNoGet(t, of(4), append(binary.AppendUvarint(nil, says), bytes.Repeat([]byte("a"), has)...))
		}
	}
}

// P7.3, over all rows of up to four bytes that are near a bound, of all kinds.
func TestGetAgainstTheWords(t *testing.T) {
	read := map[int]int{}
	someBytes(4, func(b []byte) {
		for _, kind := range []int{-1, 0, 1, 2, 3, 4, 5, 6} {
			if wantAsSaid(t, of(kind), b) {
				read[kind]++
			}
		}
	})
	for kind := range 6 {
		if read[kind] < 1000 {
			t.Errorf("only %d rows are read as kind %d", read[kind], kind)
		}
	}
	if read[-1]+read[6] != 0 {
		t.Error("a row is read as a kind that is none")
	}
}

// P7.3: a Get of an Int8 is what is found by looking through all that fit, one by one.
func TestGetOfAllInt8(t *testing.T) {
	someBytes(3, func(b []byte) {
		for n := -128; n <= 127; n++ {
			if put, _ := Put(of(0), num(n)); bytes.HasPrefix(b, put) {
				wantGet(t, of(0), b, num(n), len(put))
				return
			}
		}
		wantNoGet(t, of(0), b)
	})
}

// P7.3, over bytes by chance, and what is put with a byte changed.
func TestGetOfChangedBytes(t *testing.T) {
	next := chance(73)
	for _, x := range fitting() {
		b, _ := putOf(x.f, x.v)
		for i := range b {
			was := b[i]
			for _, d := range []byte{0, 1, 12, 13, 127, 128, 255, was + 1, was - 1, was ^ 128, byte(next(256))} {
				b[i] = d
				for kind := range 6 {
					wantAsSaid(t, of(kind), b)
				}
			}
			b[i] = was
		}
	}
	for range 20000 {
		b := make([]byte, next(20))
		for i := range b {
			b[i] = byte(next(256))
		}
		for kind := range 6 {
			wantAsSaid(t, of(kind), b)
		}
	}
}

// P1, R1: long bytes and texts are taken, and end soon.
func TestLong(t *testing.T) {
	const count = 1 << 22
	for _, d := range []byte{0, 1, 12, 13, 127, 128, 255} {
		b := bytes.Repeat(byteRow(d), count)
		rows := [][]byte{b}
		for _, says := range []uint64{12, 13, count - 1, count, count + 1} {
			rows = append(rows, append(binary.AppendUvarint(nil, says), b...))
		}
		long := string(b)
		for _, kind := range kinds() {
			for i, row := range rows {
				v, size, ok := Get(of(kind), row)
				if wantV, wantSize, want := getOf(of(kind), row); ok != want || size != wantSize || v != wantV {
					t.Errorf("row %d of many %d, of kind %d: %d, %v", i, d, kind, size, ok)
				}
			}
			for _, v := range []api.Val{{S: long}, {N: 1, S: long}, {R: -1, S: long}} {
				if b, ok := Put(of(kind), v); ok || len(b) != 0 || Fits(of(kind), v) {
					t.Errorf("a long text fits kind %d", kind)
				}
			}
		}
	}
}

// R3: bytes that are handed in stay as they were, also behind their end.
func TestHandedInStays(t *testing.T) {
	rows := broken()
	for _, x := range fitting() {
		b, _ := Put(x.f, x.v)
		rows = append(rows, b)
	}
	for _, b := range rows {
		roomy := append(slices.Clone(b), 77, 88, 99)
		was := slices.Clone(roomy)
		for kind := range 6 {
			Get(of(kind), roomy[:len(b)])
		}
		if !slices.Equal(roomy, was) {
			t.Fatalf("%v became %v", was, roomy)
		}
	}
}

// R3: what is answered by Get keeps nothing of the bytes, and by Put nothing of the text.
func TestNothingIsKept(t *testing.T) {
	for _, s := range texts() {
		if len(s) > 12 {
			continue
		}
		b, _ := putOf(of(4), text(s))
		v, _, _ := Get(of(4), b)
		for i := range b {
			b[i] = 99
		}
		if v.S != s {
			t.Errorf("Get of %q keeps what was handed in: %q", s, v.S)
		}
		raw := []byte(s + " ")
		lent := unsafe.String(&raw[0], len(s))
		put, _ := Put(of(4), text(lent))
		want := slices.Clone(put)
		for i := range raw {
			raw[i] = '?'
		}
		if !slices.Equal(put, want) {
			t.Errorf("Put of %q keeps what was handed in: %v", s, put)
		}
	}
}

// R3: what is answered by Put is the caller's own, with all the room behind it.
func TestAnswersAreOnesOwn(t *testing.T) {
	for _, x := range fitting() {
		want, _ := putOf(x.f, x.v)
		a, _ := Put(x.f, x.v)
		b, _ := Put(x.f, x.v)
		all := a[:cap(a)]
		for i := range all {
			all[i] = 99
		}
		if !slices.Equal(b, want) {
			t.Errorf("two answers of Put(%#v, %#v) share memory", x.f, x.v)
		}
		wantPut(t, x.f, x.v, want)
	}
}

// R5: what is answered does not hang on what was asked before.
func TestAskedAgain(t *testing.T) {
	list := fitting()
	for i, x := range list {
		other := list[len(list)-1-i]
		b, _ := Put(other.f, other.v)
		Get(other.f, b)
		Get(other.f, append(b, 255))
		Put(other.f, x.v)
		Zero(other.f)
		want, _ := putOf(x.f, x.v)
		for range 2 {
			wantFits(t, x.f, x.v, true)
			wantPut(t, x.f, x.v, want)
			wantGet(t, x.f, want, x.v, len(want))
		}
	}
}

func FuzzGet(f *testing.F) {
	for _, b := range broken() {
		f.Add(4, b)
	}
	for kind := range 7 {
		f.Add(kind, byteRow(2, 'a', 'b', 0))
		f.Add(kind, byteRow(129, 128, 128, 128, 4))
	}
	f.Fuzz(func(t *testing.T, kind int, b []byte) {
		wantAsSaid(t, of(kind), b)
		wantAsSaid(t, of(kind&7-1), b)
	})
}

func FuzzValues(f *testing.F) {
	f.Add(0, -1, "", 0, []byte{1})
	f.Add(4, 0, "123456789012", 0, []byte{255})
	f.Add(5, 0, "", 1<<30, []byte{})
	f.Fuzz(func(t *testing.T, kind, n int, s string, r int, behind []byte) {
		for _, k := range []int{kind, kind&7 - 1} {
			for _, v := range []api.Val{{N: n, S: s, R: r}, num(n), text(s), lead(r)} {
				want, fits := putOf(of(k), v)
				wantFits(t, of(k), v, fits)
				if !fits {
					wantNoPut(t, of(k), v)
					continue
				}
				wantPut(t, of(k), v, want)
				wantGet(t, of(k), append(want, behind...), v, len(want))
			}
		}
	})
}
