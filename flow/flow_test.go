package flow

import (
	"encoding/binary"
	"math"
	"slices"
	"testing"

	"foliate/api"
	"foliate/frame"
)

func head(body ...byte) api.Frame { return api.Frame{Kind: 1, Body: body} }
func part(body ...byte) api.Frame { return api.Frame{Kind: 2, Body: body} }
func tail(body ...byte) api.Frame { return api.Frame{Kind: 3, Body: body} }

// join are frames' bytes, one behind the other.
func join(t testing.TB, list ...api.Frame) []byte {
	t.Helper()
	var b []byte
	for _, x := range list {
		put, e := frame.Put(x)
		if e != api.OK {
			t.Fatalf("frame.Put(%v): %d", x, e)
		}
		b = append(b, put...)
	}
	return b
}

// number is a number's bytes, by the library.
func number(n uint64) []byte { return binary.AppendUvarint(nil, n) }

// framesOf is P4.2, word by word.
func framesOf(f api.Flow) []api.Frame {
	count := number(uint64(len(f.Parts)))
	list := []api.Frame{head(slices.Concat([]byte{1}, number(uint64(f.Base)), count)...)}
	for i, p := range f.Parts {
		list = append(list, part(slices.Concat(number(uint64(i)), p)...))
	}
	return append(list, tail(count...))
}

// may is P4.1, word by word.
func may(f api.Flow) bool {
	for _, p := range f.Parts {
		if len(p) > 200 {
			return false
		}
	}
	return len(f.Parts) <= 40
}

func alike(a, b api.Flow) bool {
	return a.Base == b.Base && slices.EqualFunc(a.Parts, b.Parts, slices.Equal)
}

// find is P4.3, word by word: there is no other flow than the one guessed whose bytes these could be.
func find(t testing.TB, b []byte) (api.Flow, api.Errno) {
	t.Helper()
	list, e := frame.All(b)
	if e != api.OK {
		return api.Flow{}, e
	}
	f := guess(list)
	if !may(f) || !slices.Equal(join(t, framesOf(f)...), b) {
		return api.Flow{}, api.ErrOrder
	}
	return f, api.OK
}

// guess takes what stands where a base and parts would, whatever it is.
func guess(list []api.Frame) api.Flow {
	var f api.Flow
	if len(list) < 2 {
		return f
	}
	base, _ := binary.Uvarint(list[0].Body[min(1, len(list[0].Body)):])
	f.Base = uint32(base)
	for _, x := range list[1 : len(list)-1] {
		_, size := binary.Uvarint(x.Body)
		f.Parts = append(f.Parts, slices.Clone(x.Body[max(0, size):]))
	}
	return f
}

// cutsOf goes from frame to frame.
func cutsOf(t testing.TB, b []byte) []int {
	t.Helper()
	cuts := []int{0}
	for at := 0; at < len(b); {
		_, size, e := frame.Get(b[at:])
		if e != api.OK {
			t.Fatalf("no frame at %d of %v: %d", at, b, e)
		}
		at += size
		cuts = append(cuts, at)
	}
	return cuts
}

// chance hands on numbers that look like chance, the same ones each time.
func chance(seed uint64) func(below int) int {
	return func(below int) int {
		seed = seed*6364136223846793005 + 1442695040888963407
		return int(seed >> 33 % uint64(below))
	}
}

func someBytes(size int, next func(int) int) []byte {
	b := make([]byte, size)
	for i := range b {
		b[i] = byte(next(256))
	}
	return b
}

// parts are so many, each of so many bytes, all others.
func parts(count, size int) [][]byte {
	next := chance(uint64(count*1000 + size))
	list := make([][]byte, count)
	for i := range list {
		list[i] = someBytes(size, next)
	}
	return list
}

// flows are some that may be, small ones first: without parts, of the least and the greatest base, with as many and as long parts as may be, with parts that are the same, and with one that looks like a flow.
func flows(t testing.TB) []api.Flow {
	return []api.Flow{
		{},
		{Parts: [][]byte{}},
		{Base: math.MaxUint32},
		{Base: 300, Parts: [][]byte{{7, 8}, {}}},
		{Base: 127, Parts: [][]byte{nil}},
		{Base: 128, Parts: [][]byte{{}, {}, {}}},
		{Parts: [][]byte{{0}, {0}, {0}, {1, 0}}},
		{Base: 1, Parts: [][]byte{{128}, {128, 0}, {255, 255, 255}}},
		{Base: 5, Parts: [][]byte{join(t, framesOf(api.Flow{Parts: [][]byte{{9}}})...)}},
		{Base: 1 << 31, Parts: parts(3, 199)},
		{Base: 16384, Parts: parts(2, 200)},
		{Base: 77, Parts: parts(39, 1)},
		{Base: 1 << 28, Parts: parts(40, 0)},
		{Base: math.MaxUint32, Parts: parts(40, 200)},
	}
}

func wantRead(t testing.TB, b []byte, want api.Flow) {
	t.Helper()
	if f, e := Get(b); e != api.OK || !alike(f, want) {
		t.Errorf("Get(%v) = %v, %d, not %v", b, f, e, want)
	}
	if cuts, ok := Cuts(b); !ok || !slices.Equal(cuts, cutsOf(t, b)) {
		t.Errorf("Cuts(%v) = %v, %v, not %v", b, cuts, ok, cutsOf(t, b))
	}
}

func wantRefused(t testing.TB, b []byte, want api.Errno) {
	t.Helper()
	if f, e := Get(b); e != want || f.Base != 0 || len(f.Parts) != 0 {
		t.Errorf("Get(%v) = %v, %d, not refused by %d", b, f, e, want)
	}
	if cuts, ok := Cuts(b); ok || len(cuts) != 0 {
		t.Errorf("Cuts(%v) = %v, %v, not nothing and false", b, cuts, ok)
	}
}

func TestMay(t *testing.T) {
	for _, f := range flows(t) {
		if !May(f) {
			t.Errorf("May(%v) is false", f)
		}
	}
	for _, f := range mayNotBe() {
		if May(f) {
			t.Errorf("a flow of %d parts may be", len(f.Parts))
		}
	}
}

// mayNotBe are flows of too many parts, and of too long ones, wherever they stand.
func mayNotBe() []api.Flow {
	list := []api.Flow{
		{Parts: make([][]byte, 41)},
		{Base: 9, Parts: parts(41, 200)},
		{Parts: make([][]byte, 296)},
		{Parts: make([][]byte, 1<<16)},
		{Base: math.MaxUint32, Parts: [][]byte{make([]byte, 201)}},
		{Parts: [][]byte{make([]byte, 254)}},
		{Parts: [][]byte{make([]byte, 255)}},
		{Parts: [][]byte{make([]byte, 256)}},
		{Parts: [][]byte{make([]byte, 1<<16+3)}},
		{Parts: append(parts(40, 0), make([]byte, 201))},
	}
	for i := range 40 {
		f := api.Flow{Parts: parts(40, 200)}
		f.Parts[i] = make([]byte, 201)
		list = append(list, f)
	}
	return list
}

func TestSame(t *testing.T) {
	list := slices.Concat(flows(t)[1:], []api.Flow{
		{Base: 300, Parts: [][]byte{{7, 8}}},
		{Base: 300, Parts: [][]byte{{}, {7, 8}}},
		{Base: 300, Parts: [][]byte{{7, 8}, {}, {}}},
		{Base: 300, Parts: [][]byte{{7}, {8}}},
		{Base: 300, Parts: [][]byte{{7, 9}, {}}},
		{Base: 300, Parts: [][]byte{{7, 8}, {0}}},
		{Base: 301, Parts: [][]byte{{7, 8}, {}}},
		{Base: 300 + 1<<16, Parts: [][]byte{{7, 8}, {}}},
		{Base: 300},
		{Parts: make([][]byte, 41)},
		{Parts: make([][]byte, 42)},
		{Parts: [][]byte{make([]byte, 201)}},
		{Parts: [][]byte{make([]byte, 202)}},
	})
	for i, a := range list {
		for k, b := range list {
			if Same(a, b) != (i == k) {
				t.Errorf("Same(%v, %v) is %v", a, b, i != k)
			}
		}
		own := api.Flow{Base: a.Base}
		for _, p := range a.Parts {
			own.Parts = append(own.Parts, slices.Clone(p))
		}
		if !Same(a, own) || !Same(own, a) {
			t.Errorf("%v and its copy are not the same", a)
		}
	}
	// R6: a list without elements may be nil or empty.
	if !Same(api.Flow{}, api.Flow{Parts: [][]byte{}}) || !Same(api.Flow{Parts: [][]byte{nil}}, api.Flow{Parts: [][]byte{{}}}) {
		t.Error("no elements are not the same as no elements")
	}
}

func TestPutByHand(t *testing.T) {
	long := slices.Repeat([]byte{9}, 200)
	for _, x := range []struct {
		f    api.Flow
		want []api.Frame
	}{
		{api.Flow{}, []api.Frame{head(1, 0, 0), tail(0)}},
		{api.Flow{Base: 127}, []api.Frame{head(1, 127, 0), tail(0)}},
		{api.Flow{Base: 128}, []api.Frame{head(1, 128, 1, 0), tail(0)}},
		{api.Flow{Base: math.MaxUint32}, []api.Frame{head(1, 255, 255, 255, 255, 15, 0), tail(0)}},
		{api.Flow{Parts: [][]byte{nil}}, []api.Frame{head(1, 0, 1), part(0), tail(1)}},
		{api.Flow{Base: 300, Parts: [][]byte{{7, 8}, {}}}, []api.Frame{head(1, 172, 2, 2), part(0, 7, 8), part(1), tail(2)}},
		{api.Flow{Parts: [][]byte{{5}, long}}, []api.Frame{head(1, 0, 2), part(0, 5), part(append([]byte{1}, long...)...), tail(2)}},
	} {
		if b, e := Put(x.f); e != api.OK || !slices.Equal(b, join(t, x.want...)) {
			t.Errorf("Put(%v) = %v, %d, not the bytes of %v", x.f, b, e, x.want)
		}
		wantRead(t, join(t, x.want...), x.f)
	}
}

// The chapter's example, and the second one of the whole: of 24 bytes.
func TestNoParts(t *testing.T) {
	b, e := Put(api.Flow{})
	if e != api.OK || len(b) != 24 {
		t.Fatalf("Put = %v, %d", b, e)
	}
	if cuts, ok := Cuts(b); !ok || !slices.Equal(cuts, []int{0, 13, 24}) {
		t.Errorf("Cuts = %v, %v", cuts, ok)
	}
	wantRead(t, b, api.Flow{})
	for bit := range 8 * len(b) {
		other := slices.Clone(b)
		other[bit/8] ^= 1 << (bit % 8)
		wantRefused(t, other, api.ErrSum)
	}
}

func TestPutOfWhatMayNotBe(t *testing.T) {
	for _, f := range mayNotBe() {
		if b, e := Put(f); e != api.ErrArg || len(b) != 0 {
			t.Errorf("Put of %d parts = %v, %d", len(f.Parts), b, e)
		}
	}
}

func TestGetWhatWasPut(t *testing.T) {
	list := flows(t)
	for count := range 41 {
		list = append(list, api.Flow{Base: uint32(count) << 26, Parts: parts(count, 5*count)})
	}
	for _, f := range list {
		b, e := Put(f)
		if e != api.OK || !slices.Equal(b, join(t, framesOf(f)...)) {
			t.Errorf("Put(%v) = %v, %d", f, b, e)
		}
		wantRead(t, b, f)
	}
}

// A base of each number of bytes, at its bounds.
func TestBases(t *testing.T) {
	for bit := range 33 {
		for _, near := range []int{-1, 0, 1} {
			n := 1<<bit + near
			if n < 0 || n > math.MaxUint32 {
				continue
			}
			f := api.Flow{Base: uint32(n), Parts: [][]byte{{1}}}
			b, e := Put(f)
			if e != api.OK {
				t.Errorf("base %d: %d", n, e)
			}
			wantRead(t, b, f)
		}
	}
}

// A part of each number of bytes; one more than may be is refused, though its frame is one.
func TestPartsOfEachLength(t *testing.T) {
	for size := range 255 {
		p := parts(1, size)[0]
		b := join(t, head(1, 0, 2), part(0), part(append([]byte{1}, p...)...), tail(2))
		if size <= 200 {
			wantRead(t, b, api.Flow{Parts: [][]byte{nil, p}})
		} else {
			wantRefused(t, b, api.ErrOrder)
		}
	}
}

func TestMorePartsThanMayBe(t *testing.T) {
	for _, count := range []int{40, 41, 42, 127, 128, 129, 256, 296, 300} {
		b := join(t, framesOf(api.Flow{Base: 3, Parts: make([][]byte, count)})...)
		if count <= 40 {
			wantRead(t, b, api.Flow{Base: 3, Parts: make([][]byte, count)})
		} else {
			wantRefused(t, b, api.ErrOrder)
		}
	}
}

// What frame's All refuses is refused by its error, ahead of any order.
func TestErrorsOfFrames(t *testing.T) {
	good := join(t, framesOf(api.Flow{Base: 300, Parts: [][]byte{{7, 8}, {}}})...)
	other := func(at int) []byte {
		b := slices.Clone(good)
		b[at]++
		return b
	}
	for _, x := range []struct {
		what string
		b    []byte
		want api.Errno
	}{
		{"no frame's bytes", []byte{1, 2, 3}, api.ErrForm},
		{"noughts", make([]byte, 24), api.ErrSum},
		{"another kind of the head", other(0), api.ErrSum},
		{"another length of the head", other(1), api.ErrSum},
		{"another version, and the old sum", other(6), api.ErrSum},
		{"another byte of a part", other(21), api.ErrSum},
		{"another sum of the tail", other(len(good) - 1), api.ErrSum},
		{"a sum in the tail, and its frame is too short", other(len(good) - 10)[:len(good)-1], api.ErrSum},
		{"the last byte lacks", good[:len(good)-1], api.ErrForm},
		{"the first byte lacks", good[1:], api.ErrSum},
		{"one byte behind", append(slices.Clone(good), 0), api.ErrForm},
		{"a wrong order, and a byte behind", slices.Concat(join(t, tail(0), head(1, 0, 0)), []byte{0}), api.ErrForm},
		{"a wrong version, and another sum behind", slices.Concat(join(t, head(9, 0, 0)), other(0)), api.ErrSum},
		{"another sum, and then a byte too few", slices.Concat(other(0), good[:3]), api.ErrSum},
		{"no bytes", nil, api.ErrOrder},
		{"no bytes, but a list", []byte{}, api.ErrOrder},
		{"no bytes, with room behind", good[:0], api.ErrOrder},
	} {
		t.Run(x.what, func(t *testing.T) { wantRefused(t, x.b, x.want) })
	}
}

// Frames that are all good, and not a flow's.
func TestErrorsOfOrder(t *testing.T) {
	top := []byte{255, 255, 255, 255, 255, 255, 255, 255, 255, 1} // 2^64 - 1
	with := func(ahead []byte, behind ...byte) []byte { return slices.Concat(ahead, behind) }
	for _, x := range []struct {
		what string
		list []api.Frame
	}{
		{"a head alone", []api.Frame{head(1, 0, 0)}},
		{"a tail alone", []api.Frame{tail(0)}},
		{"a part alone", []api.Frame{part(0)}},
		{"the tail ahead", []api.Frame{tail(0), head(1, 0, 0)}},
		{"two heads", []api.Frame{head(1, 0, 0), head(1, 0, 0), tail(0)}},
		{"two tails", []api.Frame{head(1, 0, 0), tail(0), tail(0)}},
		{"two flows", []api.Frame{head(1, 0, 0), tail(0), head(1, 0, 0), tail(0)}},
		{"a part behind the tail", []api.Frame{head(1, 0, 1), tail(1), part(0)}},
		{"a part more behind the tail", []api.Frame{head(1, 0, 1), part(0), tail(1), part(1)}},
		{"a part ahead of the head", []api.Frame{part(0), head(1, 0, 1), tail(1)}},
		{"a head behind a part", []api.Frame{head(1, 0, 1), part(0), head(1, 0, 1), tail(1)}},
		{"a head between parts", []api.Frame{head(1, 0, 2), part(0), head(1, 0, 2), part(1), tail(2)}},
		{"a tail between parts", []api.Frame{head(1, 0, 2), part(0), tail(2), part(1), tail(2)}},
		{"a tail for a part", []api.Frame{head(1, 0, 1), tail(0), tail(1)}},
		{"version 0", []api.Frame{head(0, 0, 0), tail(0)}},
		{"version 2", []api.Frame{head(2, 0, 0), tail(0)}},
		{"version 257", []api.Frame{head(129, 2, 0, 0), tail(0)}},
		{"version 2^32 + 1", []api.Frame{head(129, 128, 128, 128, 16, 0, 0), tail(0)}},
		{"no version", []api.Frame{head(0, 0), tail(0)}},
		{"a head without a count", []api.Frame{head(1, 0), tail(0)}},
		{"a head of a version", []api.Frame{head(1), tail(0)}},
		{"a head of nothing", []api.Frame{head(), tail(0)}},
		{"a number behind the head's", []api.Frame{head(1, 0, 0, 0), tail(0)}},
		{"half a number behind the head's", []api.Frame{head(1, 0, 0, 128), tail(0)}},
		{"base 2^32", []api.Frame{head(1, 128, 128, 128, 128, 16, 0), tail(0)}},
		{"base 2^32 + 300", []api.Frame{head(1, 172, 130, 128, 128, 16, 0), tail(0)}},
		{"base 2^64 - 1", []api.Frame{head(slices.Concat([]byte{1}, top, []byte{0})...), tail(0)}},
		{"more parts than there are", []api.Frame{head(1, 0, 2), part(0), tail(2)}},
		{"more parts than there are, but in the tail", []api.Frame{head(1, 0, 2), part(0), tail(1)}},
		{"fewer parts than there are", []api.Frame{head(1, 0, 1), part(0), part(1), tail(1)}},
		{"fewer parts than there are, but in the tail", []api.Frame{head(1, 0, 1), part(0), part(1), tail(2)}},
		{"no parts, but there is one", []api.Frame{head(1, 0, 0), part(0), tail(0)}},
		{"2^64 - 1 parts", []api.Frame{head(with([]byte{1, 0}, top...)...), tail(top...)}},
		{"2^63 parts", []api.Frame{head(1, 0, 128, 128, 128, 128, 128, 128, 128, 128, 128, 1), tail(0)}},
		{"2^64 parts", []api.Frame{head(1, 0, 128, 128, 128, 128, 128, 128, 128, 128, 128, 2), tail(0)}},
		{"place 1 for 0", []api.Frame{head(1, 0, 1), part(1, 7), tail(1)}},
		{"places the other way round", []api.Frame{head(1, 0, 2), part(1), part(0), tail(2)}},
		{"one place twice", []api.Frame{head(1, 0, 2), part(0), part(0), tail(2)}},
		{"place 256 for 0", []api.Frame{head(1, 0, 1), part(128, 2), tail(1)}},
		{"place 2^64 - 1 for 0", []api.Frame{head(1, 0, 1), part(top...), tail(1)}},
		{"a part without a place", []api.Frame{head(1, 0, 1), part(), tail(1)}},
		{"a part of half a place", []api.Frame{head(1, 0, 1), part(128), tail(1)}},
		{"a tail of another number", []api.Frame{head(1, 0, 1), part(0), tail(0)}},
		{"a tail of one more", []api.Frame{head(1, 0, 0), tail(1)}},
		{"a tail of nothing", []api.Frame{head(1, 0, 0), tail()}},
		{"a number behind the tail's", []api.Frame{head(1, 0, 1), part(0), tail(1, 0)}},
		{"half a number behind the tail's", []api.Frame{head(1, 0, 1), part(0), tail(1, 255)}},
		{"longer bytes of the version", []api.Frame{head(129, 0, 0, 0), tail(0)}},
		{"longer bytes of the base", []api.Frame{head(1, 128, 0, 0), tail(0)}},
		{"longer bytes of the head's count", []api.Frame{head(1, 0, 129, 0), part(0), tail(1)}},
		{"longer bytes of a place", []api.Frame{head(1, 0, 1), part(128, 0), tail(1)}},
		{"longer bytes of a place ahead of a part", []api.Frame{head(1, 0, 1), part(128, 0, 7), tail(1)}},
		{"longer bytes of the tail's count", []api.Frame{head(1, 0, 1), part(0), tail(129, 0)}},
		{"longer bytes of the tail's 0", []api.Frame{head(1, 0, 0), tail(128, 0)}},
		{"41 parts, of which none is there", []api.Frame{head(1, 0, 41), tail(41)}},
	} {
		t.Run(x.what, func(t *testing.T) { wantRefused(t, join(t, x.list...), api.ErrOrder) })
	}
}

// Another kind, in each frame's place: each one there may be.
func TestOtherKinds(t *testing.T) {
	list := framesOf(api.Flow{Base: 1, Parts: [][]byte{{1}, {2}}})
	for i := range list {
		for kind := range 256 {
			other := slices.Clone(list)
			other[i].Kind = kind
			if kind != list[i].Kind {
				wantRefused(t, join(t, other...), api.ErrOrder)
			}
		}
		for kind := range 256 {
			more := api.Frame{Kind: kind, Body: list[i].Body}
			wantRefused(t, join(t, slices.Insert(slices.Clone(list), i, more)...), api.ErrOrder)
			wantRefused(t, join(t, append(slices.Clone(list), more)...), api.ErrOrder)
		}
	}
}

// P4.4: of a flow's bytes no beginning but all of them.
func TestCutAnywhere(t *testing.T) {
	for _, f := range flows(t) {
		b := join(t, framesOf(f)...)
		cuts := cutsOf(t, b)
		for size := range b {
			want := api.ErrForm
			if slices.Contains(cuts, size) {
				want = api.ErrOrder
			}
			// What lies behind the end, though there is room for it, is not read.
			wantRefused(t, b[:size], want)
		}
		for _, cut := range cuts[1:] {
			wantRefused(t, b[cut:], api.ErrOrder)
		}
	}
}

// P4.4: nothing longer.
func TestSomethingBehind(t *testing.T) {
	next := chance(11)
	for _, f := range flows(t) {
		b := join(t, framesOf(f)...)
		for d := range 256 {
			wantRefused(t, append(slices.Clone(b), byte(d)), api.ErrForm)
		}
		for _, behind := range [][]byte{make([]byte, 5), b[:len(b)-1], b[:6]} {
			wantRefused(t, slices.Concat(b, behind), api.ErrForm)
		}
		for _, behind := range [][]byte{make([]byte, 6), make([]byte, 300), someBytes(40, next)} {
			wantRefused(t, slices.Concat(b, behind), api.ErrSum)
		}
		for _, behind := range [][]api.Frame{framesOf(f), {tail(0)}, {head(1, 0, 0)}, {part(byte(len(f.Parts)))}, {{}}, {{Kind: 255}}} {
			wantRefused(t, slices.Concat(b, join(t, behind...)), api.ErrOrder)
			wantRefused(t, slices.Concat(join(t, behind...), b), api.ErrOrder)
		}
	}
}

// P4.4: a frame lacks, is there twice, or stands in another one's place.
func TestFramesElsewhere(t *testing.T) {
	for _, f := range flows(t) {
		list := framesOf(f)
		for i, x := range list {
			less := slices.Delete(slices.Clone(list), i, i+1)
			wantRefused(t, join(t, less...), api.ErrOrder)
			for k := range len(list) + 1 {
				wantRefused(t, join(t, slices.Insert(slices.Clone(list), k, x)...), api.ErrOrder)
			}
			for k := range list {
				if k == i {
					continue
				}
				wantRefused(t, join(t, slices.Insert(slices.Clone(less), k, x)...), api.ErrOrder)
				swapped := slices.Clone(list)
				swapped[i], swapped[k] = swapped[k], swapped[i]
				wantRefused(t, join(t, swapped...), api.ErrOrder)
				instead := slices.Clone(list)
				instead[k] = x
				wantRefused(t, join(t, instead...), api.ErrOrder)
			}
		}
	}
}

// flip turns round bits of bytes, from a place on: those that are 1 in the pattern, its lowest one first. It tells whether all of them are there.
func flip(b []byte, from int, pattern uint32) bool {
	for i := range 32 {
		at := from + i
		if pattern>>i&1 == 0 {
			continue
		}
		if at >= 8*len(b) {
			return false
		}
		b[at/8] ^= 1 << (at % 8)
	}
	return true
}

// patterns are some of 32 bits: single ones, two, runs, and others.
func patterns() []uint32 {
	next := chance(3)
	list := []uint32{math.MaxUint32, 0x55555555, 0xedb88320}
	for i := range 32 {
		list = append(list, 1<<i|1, math.MaxUint32>>i)
	}
	for range 30 {
		list = append(list, uint32(next(1<<31))<<1|1)
	}
	return list
}

// P4.4: some of 32 bits are others, from each place of each frame on.
func TestOtherBits(t *testing.T) {
	list := patterns()
	for _, f := range flows(t)[:8] {
		good := join(t, framesOf(f)...)
		cuts := cutsOf(t, good)
		for i, cut := range cuts[1:] {
			flipAll(t, good, cuts[i], cut, list)
		}
	}
}

// P4.4: the same of the longest flow, in some of its frames, by fewer patterns.
func TestOtherBitsOfTheLongest(t *testing.T) {
	good := join(t, framesOf(api.Flow{Base: math.MaxUint32, Parts: parts(40, 200)})...)
	cuts := cutsOf(t, good)
	for _, i := range []int{0, 1, 40, 41} {
		flipAll(t, good, cuts[i], cuts[i+1], []uint32{1, math.MaxUint32})
	}
}

func flipAll(t *testing.T, good []byte, from, to int, list []uint32) {
	t.Helper()
	for bit := range 8 * (to - from) {
		for _, pattern := range list {
			b := slices.Clone(good)
			if flip(b[from:to], bit, pattern) {
				wantRefused(t, b, api.ErrSum)
			}
		}
		if t.Failed() {
			return
		}
	}
}

// check holds Get and Cuts of any bytes against the words of P4.3.
func check(t testing.TB, b []byte) {
	t.Helper()
	f, e := find(t, b)
	if e != api.OK {
		wantRefused(t, b, e)
		return
	}
	wantRead(t, b, f)
	if again, e := Put(f); e != api.OK || !slices.Equal(again, b) {
		t.Errorf("%v is read as %v, and put as %v, %d", b, f, again, e)
	}
}

// P4.3 by its words: a flow's frames with some changed, left out, or put in between, all with sums that are good.
func TestReadAsTheWordsSay(t *testing.T) {
	next := chance(6)
	small := []byte{0, 0, 1, 1, 2, 3, 40, 41, 127, 128, 129, 255}
	read := 0
	for range 20000 {
		f := api.Flow{Base: uint32(next(1<<31)) >> next(31)}
		for range next(4) {
			f.Parts = append(f.Parts, someBytes(next(3), next))
		}
		list := framesOf(f)
		for range next(3) {
			i := next(len(list))
			x := &list[i]
			switch next(7) {
			case 0:
				x.Kind = next(5)
			case 1:
				x.Body = slices.Insert(x.Body, next(len(x.Body)+1), small[next(len(small))])
			case 2:
				x.Body = x.Body[:next(len(x.Body)+1)]
			case 3:
				if len(x.Body) > 0 {
					x.Body[next(len(x.Body))] = small[next(len(small))]
				}
			case 4:
				list = slices.Insert(list, next(len(list)+1), api.Frame{Kind: x.Kind, Body: slices.Clone(x.Body)})
			case 5:
				k := next(len(list))
				list[i], list[k] = list[k], list[i]
			case 6:
				if len(list) > 1 {
					list = slices.Delete(list, i, i+1)
				}
			}
		}
		b := join(t, list...)
		if _, e := Get(b); e == api.OK {
			read++
		}
		check(t, b)
	}
	if read < 1000 || read > 19000 {
		t.Errorf("%d of 20000 are read: so they say little", read)
	}
}

// R3: what is handed in stays, also what is behind its end, and changes of it change no answer.
func TestArgumentsStay(t *testing.T) {
	for _, f := range flows(t) {
		rooms := make([][]byte, len(f.Parts))
		arg := api.Flow{Base: f.Base, Parts: make([][]byte, len(f.Parts), len(f.Parts)+3)}
		for i, p := range f.Parts {
			rooms[i] = slices.Concat(p, []byte{9, 9, 9, 9, 9, 9, 9, 9, 9, 9, 9, 9})
			arg.Parts[i] = rooms[i][:len(p)]
		}
		b, _ := Put(arg)
		if !May(arg) || !Same(arg, f) {
			t.Errorf("%v became %v", f, arg)
		}
		for i, p := range f.Parts {
			if !slices.Equal(rooms[i], slices.Concat(p, []byte{9, 9, 9, 9, 9, 9, 9, 9, 9, 9, 9, 9})) {
				t.Errorf("part %d: %v became %v", i, p, rooms[i])
			}
			clear(rooms[i])
		}
		want := join(t, framesOf(f)...)
		if !slices.Equal(b, want) {
			t.Errorf("Put(%v) is %v once the parts were changed", f, b)
		}
		room := append(slices.Clone(want), 9, 9, 9, 9)
		got, _ := Get(room[:len(want)])
		Cuts(room[:len(want)])
		if !slices.Equal(room, append(slices.Clone(want), 9, 9, 9, 9)) {
			t.Errorf("Get, Cuts: %v became %v", want, room)
		}
		clear(room)
		if !alike(got, f) {
			t.Errorf("%v became %v when the bytes were changed", f, got)
		}
	}
}

// R3: what is answered is the caller's own, and no two parts share anything.
func TestAnswersAreOwn(t *testing.T) {
	f := api.Flow{Base: 300, Parts: [][]byte{{1, 2, 3}, {}, {4}, {}, {5, 6}}}
	b := join(t, framesOf(f)...)
	was := slices.Clone(b)
	for i := range f.Parts {
		got, _ := Get(b)
		own := got.Parts[i][:cap(got.Parts[i])]
		for k := range own {
			own[k] ^= 255
		}
		for k, p := range got.Parts {
			if k != i && !slices.Equal(p, f.Parts[k]) {
				t.Errorf("part %d became %v when part %d was changed", k, p, i)
			}
		}
	}
	cuts, _ := Cuts(b)
	clear(cuts)
	put, _ := Put(f)
	clear(put)
	if !slices.Equal(b, was) {
		t.Error("the bytes became others when an answer was changed")
	}
	wantRead(t, b, f)
	if again, e := Put(f); e != api.OK || !slices.Equal(again, was) {
		t.Errorf("Put(%v) = %v, %d, once an answer was changed", f, again, e)
	}
}

func FuzzBytes(f *testing.F) {
	for _, x := range flows(f) {
		f.Add(join(f, framesOf(x)...), x.Base, byte(1), []byte{0})
	}
	f.Add(join(f, tail(0), head(1, 0, 0)), uint32(0), byte(2), []byte{128, 0})
	f.Fuzz(func(t *testing.T, b []byte, base uint32, kind byte, body []byte) {
		check(t, b)
		list, _ := frame.All(b)
		check(t, join(t, append(list, api.Frame{Kind: int(kind), Body: body[:min(len(body), 255)]})...))
		x := api.Flow{Base: base, Parts: [][]byte{body, b}}
		put, e := Put(x)
		if !may(x) {
			if May(x) || e != api.ErrArg || len(put) != 0 {
				t.Errorf("Put(%v) = %v, %d", x, put, e)
			}
			return
		}
		if !May(x) || e != api.OK || !slices.Equal(put, join(t, framesOf(x)...)) {
			t.Errorf("Put(%v) = %v, %d", x, put, e)
		}
		check(t, put)
	})
}
