package frame

import (
	"encoding/binary"
	"hash/crc32"
	"math"
	"slices"
	"testing"

	"foliate/api"
)

// sealed is bytes with their sum behind, by the library's sum.
func sealed(b ...byte) []byte {
	return binary.LittleEndian.AppendUint32(slices.Clone(b), crc32.ChecksumIEEE(b))
}

func isSealed(b []byte) bool {
	return len(b) >= 4 && slices.Equal(sealed(b[:len(b)-4]...), b)
}

// put is P3.1, and get P3.2, word by word.
func put(f api.Frame) []byte {
	return append(sealed(byte(f.Kind), byte(len(f.Body))), sealed(f.Body...)...)
}

func get(b []byte) (api.Frame, int, api.Errno) {
	switch {
	case len(b) < 6:
		return api.Frame{}, 0, api.ErrForm
	case !isSealed(b[:6]):
		return api.Frame{}, 0, api.ErrSum
	case len(b)-6 < int(b[1])+4:
		return api.Frame{}, 0, api.ErrForm
	case !isSealed(b[6 : 6+int(b[1])+4]):
		return api.Frame{}, 0, api.ErrSum
	}
	return api.Frame{Kind: int(b[0]), Body: slices.Clone(b[6 : 6+int(b[1])])}, 10 + int(b[1]), api.OK
}

func all(b []byte) ([]api.Frame, api.Errno) {
	if len(b) == 0 {
		return nil, api.OK
	}
	f, size, e := get(b)
	if e != api.OK {
		return nil, e
	}
	rest, e := all(b[size:])
	if e != api.OK {
		return nil, e
	}
	return append([]api.Frame{f}, rest...), api.OK
}

func alike(a, b api.Frame) bool { return a.Kind == b.Kind && slices.Equal(a.Body, b.Body) }

func noFrame(f api.Frame) bool { return f.Kind == 0 && len(f.Body) == 0 }

// chance hands on numbers that look like chance, the same ones each time.
func chance(seed uint64) func() uint64 {
	return func() uint64 {
		seed = seed*6364136223846793005 + 1442695040888963407
		return seed >> 32
	}
}

func someBytes(size int, next func() uint64) []byte {
	b := make([]byte, size)
	for i := range b {
		b[i] = byte(next())
	}
	return b
}

// frames are some that may be: of the least and the greatest kind, without a body, with the greatest one, and others.
func frames() []api.Frame {
	next := chance(1)
	list := []api.Frame{
		{},
		{Body: []byte{}},
		{Kind: 255},
		{Kind: 200, Body: []byte{1, 2, 3}},
		{Kind: 7, Body: make([]byte, 4)},
		{Kind: 255, Body: slices.Repeat([]byte{255}, 255)},
		{Kind: 3, Body: put(api.Frame{Kind: 2, Body: []byte{5}})},
	}
	for _, size := range []int{1, 2, 4, 5, 6, 9, 10, 11, 127, 128, 254, 255} {
		list = append(list, api.Frame{Kind: int(next() % 256), Body: someBytes(size, next)})
	}
	return list
}

// flip turns round bits of bytes, from a place on: those that are 1 in the pattern, its lowest one first. It tells whether all of them are there.
func flip(b []byte, from int, pattern uint32) bool {
	for i := range 32 {
		if pattern>>i&1 == 0 {
			continue
		}
		at := from + i
		if at >= 8*len(b) {
			return false
		}
		b[at/8] ^= 1 << (at % 8)
	}
	return true
}

// patterns are some of 32 bits: one to three of them, runs, all, and others.
func patterns(others int) []uint32 {
	next := chance(3)
	list := []uint32{math.MaxUint32, 0x55555555, 0xaaaaaaaa, 0xedb88320, 0x04c11db7}
	for i := range 32 {
		list = append(list, 1<<i, 1<<i|1, 1<<i|1<<31, math.MaxUint32>>i)
	}
	for range others {
		list = append(list, uint32(next())|1)
	}
	return list
}

func wantRefused(t *testing.T, b []byte, want api.Errno) {
	t.Helper()
	if f, size, e := Get(b); e != want || size != 0 || !noFrame(f) {
		t.Errorf("Get(%v) = %v, %d, %d, not refused by %d", b, f, size, e, want)
	}
	if len(b) == 0 {
		return
	}
	if list, e := All(b); e != want || len(list) != 0 {
		t.Errorf("All(%v) = %v, %d, not refused by %d", b, list, e, want)
	}
}

func TestPutByHand(t *testing.T) {
	for _, x := range []struct {
		f    api.Frame
		want []byte
	}{
		{api.Frame{}, []byte{0, 0, 0xff, 0x12, 0xd9, 0x41, 0, 0, 0, 0}},
		{api.Frame{Kind: 97, Body: []byte("abc")}, append(sealed(97, 3), 'a', 'b', 'c', 0xc2, 0x41, 0x24, 0x35)},
		{api.Frame{Kind: 255, Body: []byte{0}}, append(sealed(255, 1), 0, 0x8d, 0xef, 0x02, 0xd2)},
	} {
		if b, e := Put(x.f); e != api.OK || !slices.Equal(b, x.want) {
			t.Errorf("Put(%v) = %v, %d, not %v", x.f, b, e, x.want)
		}
	}
}

// The chapter's example.
func TestNoBodyHasTenBytes(t *testing.T) {
	for kind := range 256 {
		for _, body := range [][]byte{nil, {}} {
			b, e := Put(api.Frame{Kind: kind, Body: body})
			if e != api.OK || len(b) != 10 {
				t.Errorf("kind %d: %v, %d", kind, b, e)
			}
			if f, size, e := Get(b); e != api.OK || size != 10 || f.Kind != kind || len(f.Body) != 0 {
				t.Errorf("kind %d: Get = %v, %d, %d", kind, f, size, e)
			}
		}
	}
}

// P3.1 and P3.3: each kind, and a body of each length.
func TestPutAndGetOfEach(t *testing.T) {
	next := chance(2)
	for n := range 256 {
		for _, f := range []api.Frame{{Kind: n, Body: someBytes(int(next()%256), next)}, {Kind: int(next() % 256), Body: someBytes(n, next)}} {
			b, e := Put(f)
			if e != api.OK || !slices.Equal(b, put(f)) {
				t.Errorf("Put(%v) = %v, %d, not %v", f, b, e, put(f))
			}
			if got, size, e := Get(b); e != api.OK || size != len(b) || !alike(got, f) {
				t.Errorf("Get(%v) = %v, %d, %d, not %v", b, got, size, e, f)
			}
			if list, e := All(b); e != api.OK || len(list) != 1 || !alike(list[0], f) {
				t.Errorf("All(%v) = %v, %d, not %v alone", b, list, e, f)
			}
		}
	}
}

func TestPutOfWhatMayNotBe(t *testing.T) {
	for _, f := range []api.Frame{
		{Kind: -1},
		{Kind: 256},
		{Kind: 256 + 7, Body: []byte{1}},
		{Kind: -256},
		{Kind: -249},
		{Kind: math.MinInt},
		{Kind: math.MaxInt},
		{Kind: 1 << 32},
		{Kind: 7, Body: make([]byte, 256)},
		{Kind: 0, Body: make([]byte, 257)},
		{Kind: 255, Body: make([]byte, 512)},
		{Kind: 255, Body: make([]byte, 1<<16+3)},
		{Kind: -1, Body: make([]byte, 256)},
		{Kind: 256, Body: make([]byte, 255)},
	} {
		if b, e := Put(f); e != api.ErrArg || len(b) != 0 {
			t.Errorf("Put of kind %d and %d bytes = %v, %d", f.Kind, len(f.Body), b, e)
		}
	}
}

func TestSame(t *testing.T) {
	for _, x := range []struct {
		a, b api.Frame
		want bool
	}{
		{api.Frame{}, api.Frame{}, true},
		{api.Frame{}, api.Frame{Body: []byte{}}, true},
		{api.Frame{Body: []byte{}}, api.Frame{Body: make([]byte, 0, 9)}, true},
		{api.Frame{Kind: 1}, api.Frame{Kind: 2}, false},
		{api.Frame{Kind: 1}, api.Frame{Kind: 257}, false},
		{api.Frame{Kind: -1}, api.Frame{Kind: -1}, true},
		{api.Frame{Kind: -1}, api.Frame{Kind: 255}, false},
		{api.Frame{Kind: 1, Body: []byte{1, 2}}, api.Frame{Kind: 1, Body: []byte{1, 2}}, true},
		{api.Frame{Kind: 1, Body: []byte{1, 2}}, api.Frame{Kind: 2, Body: []byte{1, 2}}, false},
		{api.Frame{Kind: 1, Body: []byte{1, 2}}, api.Frame{Kind: 1, Body: []byte{2, 1}}, false},
		{api.Frame{Kind: 1, Body: []byte{1, 2}}, api.Frame{Kind: 1, Body: []byte{1}}, false},
		{api.Frame{Kind: 1, Body: []byte{1, 2}}, api.Frame{Kind: 1, Body: []byte{1, 2, 0}}, false},
		{api.Frame{Kind: 1, Body: []byte{0}}, api.Frame{Kind: 1}, false},
		{api.Frame{Kind: 9, Body: make([]byte, 1000)}, api.Frame{Kind: 9, Body: make([]byte, 1000)}, true},
	} {
		if Same(x.a, x.b) != x.want || Same(x.b, x.a) != x.want {
			t.Errorf("Same(%v, %v) is not %v both ways", x.a, x.b, x.want)
		}
	}
}

func TestFewerThanSixBytes(t *testing.T) {
	wantRefused(t, nil, api.ErrForm)
	for d := range 256 {
		row := slices.Repeat([]byte{byte(d)}, 6)
		for size := range 6 {
			wantRefused(t, row[:size], api.ErrForm)
		}
	}
	// Room behind that holds the rest of a frame is not read.
	whole := put(api.Frame{Kind: 4, Body: []byte{1, 2}})
	for size := range whole {
		wantRefused(t, whole[:size], api.ErrForm)
	}
}

// P3.2: each error where more than one would fit, and which of them is told.
func TestErrorsInOrder(t *testing.T) {
	other := func(b []byte, at int) []byte {
		b = slices.Clone(b)
		b[at]++
		return b
	}
	head, body := sealed(1, 3), sealed(9, 8, 7)
	whole := append(slices.Clone(head), body...)
	for _, x := range []struct {
		what string
		b    []byte
		want api.Errno
	}{
		{"five bytes, and no sum", []byte{1, 0, 0, 0, 0}, api.ErrForm},
		{"a head alone", head, api.ErrForm},
		{"another head alone", other(head, 2), api.ErrSum},
		{"another kind", other(whole, 0), api.ErrSum},
		{"another length", other(whole, 1), api.ErrSum},
		{"another sum of the head", other(whole, 5), api.ErrSum},
		{"another body", other(whole, 6), api.ErrSum},
		{"another sum of the body", other(whole, 12), api.ErrSum},
		{"another body, and too short", other(whole, 6)[:12], api.ErrForm},
		{"another head, and too short", other(whole, 0)[:12], api.ErrSum},
		{"another head, and another body", other(other(whole, 0), 6), api.ErrSum},
		{"a longer body than there is", append(sealed(1, 9), body...), api.ErrForm},
		{"a longer body by one", append(sealed(1, 4), body...), api.ErrForm},
		{"a shorter body by one", append(sealed(1, 2), body...), api.ErrSum},
		{"a body of none, and another one", append(sealed(1, 0), body...), api.ErrSum},
		{"the greatest length, one byte less", append(sealed(1, 255), make([]byte, 258)...), api.ErrForm},
		{"the greatest length, and no sum", append(sealed(1, 255), slices.Repeat([]byte{1}, 259)...), api.ErrSum},
		{"noughts", make([]byte, 10), api.ErrSum},
		{"six noughts", make([]byte, 6), api.ErrSum},
		{"the sum's bytes the other way round", append([]byte{1, 3, head[5], head[4], head[3], head[2]}, body...), api.ErrSum},
		{"the body ahead", append(slices.Clone(body), head...), api.ErrSum},
	} {
		t.Run(x.what, func(t *testing.T) { wantRefused(t, x.b, x.want) })
	}
}

// P3.3: whatever stands behind.
func TestSomethingBehind(t *testing.T) {
	next := chance(4)
	list := frames()
	for i, f := range list {
		b := put(f)
		for _, behind := range [][]byte{{0}, {9, 9}, make([]byte, 300), b, b[:len(b)-1], put(list[(i+1)%len(list)]), someBytes(50, next)} {
			got, size, e := Get(slices.Concat(b, behind))
			if e != api.OK || size != len(b) || !alike(got, f) {
				t.Errorf("%v with %v behind: %v, %d, %d", b, behind, got, size, e)
			}
		}
	}
}

// A frame's bytes cut anywhere are too few.
func TestCutAnywhere(t *testing.T) {
	for _, f := range frames() {
		b := put(f)
		for size := range b {
			wantRefused(t, slices.Clone(b[:size]), api.ErrForm)
		}
	}
}

// P3.3, at each place, with nothing behind and with something.
func TestOtherBitsAreRefused(t *testing.T) {
	list := patterns(300)
	for _, f := range []api.Frame{{}, {Kind: 255}, {Kind: 1, Body: []byte{0}}, {Kind: 200, Body: []byte{1, 2, 3}}, {Kind: 5, Body: make([]byte, 12)}, {Kind: 3, Body: put(api.Frame{Kind: 2})}} {
		good := put(f)
		for from := range 8 * len(good) {
			for _, pattern := range list {
				b := slices.Clone(good)
				if !flip(b, from, pattern) {
					continue
				}
				wantRefused(t, b, api.ErrSum)
				if got, size, e := Get(append(b, good...)); e != api.ErrSum || size != 0 || !noFrame(got) {
					t.Errorf("%v with a frame behind: %v, %d, %d", b, got, size, e)
				}
			}
			if t.Failed() {
				return
			}
		}
	}
}

// P3.3: a single bit, and all of 32 bits, in the longest frame.
func TestOtherBitsOfTheLongest(t *testing.T) {
	good := put(api.Frame{Kind: 9, Body: someBytes(255, chance(5))})
	for from := range 8 * len(good) {
		for _, pattern := range []uint32{1, 3, 0x80000001, math.MaxUint32} {
			if b := slices.Clone(good); flip(b, from, pattern) {
				wantRefused(t, b, api.ErrSum)
			}
		}
	}
}

func TestAllOfNone(t *testing.T) {
	for _, b := range [][]byte{nil, {}, put(api.Frame{Kind: 1})[:0]} {
		if list, e := All(b); e != api.OK || len(list) != 0 {
			t.Errorf("All of no bytes = %v, %d", list, e)
		}
	}
}

func TestAllInOrder(t *testing.T) {
	list := frames()
	var b []byte
	for i, f := range list {
		b = append(b, put(f)...)
		got, e := All(b)
		if e != api.OK || !slices.EqualFunc(got, list[:i+1], alike) {
			t.Errorf("%d frames: %v, %d", i+1, got, e)
		}
	}
	slices.Reverse(list)
	b = nil
	for _, f := range list {
		b = append(b, put(f)...)
	}
	if got, e := All(b); e != api.OK || !slices.EqualFunc(got, list, alike) {
		t.Errorf("the other way round: %v, %d", got, e)
	}
}

// Bytes of frames cut anywhere are the frames ahead where one of them ends, and nothing elsewhere.
func TestAllCutAnywhere(t *testing.T) {
	list := []api.Frame{{Kind: 1, Body: []byte{1, 2, 3}}, {Kind: 2}, {Kind: 2}, {Kind: 3, Body: make([]byte, 20)}}
	var b []byte
	ends := map[int]int{0: 0}
	for i, f := range list {
		b = append(b, put(f)...)
		ends[len(b)] = i + 1
	}
	for size := range len(b) + 1 {
		got, e := All(b[:size])
		n, whole := ends[size]
		if whole && (e != api.OK || !slices.EqualFunc(got, list[:n], alike)) {
			t.Errorf("%d bytes: %v, %d, not %d frames", size, got, e, n)
		}
		if !whole && (e != api.ErrForm || len(got) != 0) {
			t.Errorf("%d bytes: %v, %d", size, got, e)
		}
	}
}

// The first error is that of the first frame that is none, whatever is behind it.
func TestAllTellsTheFirstError(t *testing.T) {
	good := put(api.Frame{Kind: 1, Body: []byte{5}})
	noSum := slices.Clone(good)
	noSum[10]++
	for _, x := range []struct {
		what string
		b    []byte
		want api.Errno
	}{
		{"no sum, then too few", slices.Concat(good, noSum, good[:3]), api.ErrSum},
		{"no sum, then good", slices.Concat(noSum, good, good), api.ErrSum},
		{"too few at the end", slices.Concat(good, good, good[:len(good)-1]), api.ErrForm},
		{"one byte behind", slices.Concat(good, good, []byte{0}), api.ErrForm},
		{"six noughts behind", slices.Concat(good, make([]byte, 6)), api.ErrSum},
		{"a length that goes beyond, and over good ones", slices.Concat(good, sealed(1, 255), good, good), api.ErrForm},
		{"a length that goes over a good one", slices.Concat(good, sealed(1, 5), good), api.ErrSum},
	} {
		if list, e := All(x.b); e != x.want || len(list) != 0 {
			t.Errorf("%s: %v, %d, not %d", x.what, list, e, x.want)
		}
	}
}

// Where bits of two frames, one behind the other, are others, too.
func TestAllOfOtherBits(t *testing.T) {
	good := slices.Concat(put(api.Frame{Kind: 1, Body: []byte{1}}), put(api.Frame{}), put(api.Frame{Kind: 3, Body: []byte{7, 7}}))
	list := patterns(100)
	for from := range 8 * len(good) {
		for _, pattern := range list {
			b := slices.Clone(good)
			if !flip(b, from, pattern) {
				continue
			}
			if got, e := All(b); e != api.ErrSum || len(got) != 0 {
				t.Fatalf("%v became %v: %v, %d", good, b, got, e)
			}
		}
	}
}

// P3.2 by its words, of bytes that are frames' with some changed, left out, or put in between.
func TestReadAsTheWordsSay(t *testing.T) {
	next := chance(6)
	for range 5000 {
		var b []byte
		for range next() % 4 {
			f := api.Frame{Kind: int(next() % 4), Body: someBytes(int(next()%5), next)}
			b = append(b, put(f)...)
		}
		switch at := int(next() % uint64(len(b)+1)); next() % 4 {
		case 0:
			b = slices.Insert(b, at, someBytes(int(next()%7), next)...)
		case 1:
			b = b[:at]
		case 2:
			b = b[at:]
		}
		checkRead(t, b)
	}
}

func checkRead(t *testing.T, b []byte) {
	t.Helper()
	f, size, e := Get(b)
	wantF, wantSize, wantE := get(b)
	if e != wantE || size != wantSize || !alike(f, wantF) {
		t.Errorf("Get(%v) = %v, %d, %d, not %v, %d, %d", b, f, size, e, wantF, wantSize, wantE)
	}
	list, e := All(b)
	wantList, wantE := all(b)
	if e != wantE || !slices.EqualFunc(list, wantList, alike) {
		t.Errorf("All(%v) = %v, %d, not %v, %d", b, list, e, wantList, wantE)
	}
}

// R3: what is handed in stays, also what is behind its end.
func TestArgumentsStay(t *testing.T) {
	for _, f := range frames() {
		room := append(slices.Clone(f.Body), 9, 9, 9, 9, 9, 9, 9, 9)
		was := slices.Clone(room)
		b, _ := Put(api.Frame{Kind: f.Kind, Body: room[:len(f.Body)]})
		Same(api.Frame{Body: room[:len(f.Body)]}, f)
		if !slices.Equal(room, was) {
			t.Errorf("Put: %v became %v", was, room)
		}
		want := slices.Clone(b)
		clear(room)
		if !slices.Equal(b, want) {
			t.Errorf("Put(%v) became %v when the body was changed", f, b)
		}
		room = slices.Concat(b, b, []byte{9, 9, 9, 9})
		was = slices.Clone(room)
		got, _, _ := Get(room[:len(b)])
		list, _ := All(room[:2*len(b)])
		if !slices.Equal(room, was) {
			t.Errorf("Get, All: %v became %v", was, room)
		}
		clear(room)
		if !alike(got, f) || !alike(list[0], f) || !alike(list[1], f) {
			t.Errorf("%v became %v, %v when the bytes were changed", f, got, list)
		}
	}
}

// R3: what is answered is the caller's own, and no two bodies share anything.
func TestAnswersAreOwn(t *testing.T) {
	list := frames()
	var b []byte
	for _, f := range list {
		b = append(b, put(f)...)
	}
	was := slices.Clone(b)
	for i := range list {
		got, _ := All(b)
		body := got[i].Body[:cap(got[i].Body)]
		for k := range body {
			body[k] ^= 255
		}
		for k, f := range got {
			if k != i && !alike(f, list[k]) {
				t.Errorf("frame %d became %v when frame %d was changed", k, f, i)
			}
		}
	}
	one, _, _ := Get(b)
	_ = append(one.Body, 1, 2, 3)
	bytes, _ := Put(list[3])
	for i := range bytes {
		bytes[i] = 77
	}
	if again, _ := Put(list[3]); !slices.Equal(again, put(list[3])) {
		t.Errorf("Put(%v) = %v, once an answer was changed", list[3], again)
	}
	if !slices.Equal(b, was) {
		t.Error("the bytes became others when an answer was changed")
	}
}

func FuzzBytes(f *testing.F) {
	f.Add([]byte{}, 0, []byte{}, 0, uint32(1))
	f.Add(put(api.Frame{Kind: 5, Body: []byte{1, 2}}), 200, []byte{1, 2, 3}, 7, uint32(0x80000001))
	f.Fuzz(func(t *testing.T, b []byte, kind int, body []byte, from int, pattern uint32) {
		checkRead(t, b)
		x := api.Frame{Kind: kind, Body: body}
		p, e := Put(x)
		if kind < 0 || kind > 255 || len(body) > 255 {
			if e != api.ErrArg || len(p) != 0 {
				t.Errorf("Put(%v) = %v, %d", x, p, e)
			}
			return
		}
		if e != api.OK || !slices.Equal(p, put(x)) {
			t.Errorf("Put(%v) = %v, %d", x, p, e)
		}
		if got, size, e := Get(slices.Concat(p, b)); e != api.OK || size != len(p) || !Same(got, x) {
			t.Errorf("%v with %v behind: %v, %d, %d", p, b, got, size, e)
		}
		if from < 0 || from >= 8*len(p) || pattern == 0 {
			return
		}
		if flip(p, from, pattern) {
			wantRefused(t, p, api.ErrSum)
		}
	})
}
