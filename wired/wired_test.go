package wired

import (
	"bytes"
	"encoding/binary"
	"hash/crc32"
	"math"
	"slices"
	"strings"
	"testing"
	"unsafe"

	"foliate/api"
	"foliate/canon"
	"foliate/code"
	"foliate/delta"
	"foliate/flow"
	"foliate/frame"
	"foliate/graph"
	"foliate/schema"
	"foliate/value"
)

const top = 1073741824 // 2^30

func num(n int) api.Val     { return api.Val{N: n} }
func text(s string) api.Val { return api.Val{S: s} }
func lead(r int) api.Val    { return api.Val{R: r} }

func obj(id, t int, list ...api.Val) api.Obj { return api.Obj{Id: id, T: t, F: list} }

func set(f int, v api.Val) api.Cell { return api.Cell{F: f, V: v} }

func item(from, t int, list ...api.Cell) api.Item { return api.Item{From: from, T: t, Set: list} }

func schemaOf(s string) api.Schema {
	x, ok := schema.Read(s)
	if !ok {
		panic(s)
	}
	return x
}

// of is a graph of a schema's text, without roots.
func of(s string, list ...api.Obj) api.Graph { return api.Graph{S: schemaOf(s), O: list} }

// rooted is g with other roots.
func rooted(g api.Graph, ids ...int) api.Graph {
	g.Roots = ids
	return g
}

const (
	ringsText = "a{o:*a,n:i64,s:t,p:*a}"
	kindsText = "a{a:i8,b:i16,c:i32,d:i64,e:t}b{o:*b}"
	richText  = "a{n:i8,o:*b,s:t}b{o:*a,p:*b}c{}d{h:i16,w:i32,l:i64,a:*a,c:*c}"
)

func texts() []string {
	return []string{"a{n:i8,o:*b}b{o:*a}", ringsText, kindsText, richText, "a{}", "a{o:*b,p:*b,q:*b,r:*c,s:*d}b{o:*a}c{o:*c}d{}", "ä1{s:t}b{ß:*ä1}"}
}

// sized is a schema whose text has so many bytes, from 88 to 228.
func sized(size int) api.Schema {
	s := schemaOf("a{a:t,b:t,c:t,d:t,e:t}b{a:t,b:t,c:t,d:t,e:t}c{a:t,b:t,c:t,d:t,e:t}d{a:t,b:t,c:t,d:t,e:t}")
	more := size - len(schema.Text(s))
	for _, t := range s.T {
		for k := range t.F {
			n := min(more, 7)
			t.F[k].Name += strings.Repeat("1", n)
			more -= n
		}
	}
	if got := len(schema.Text(s)); got != size {
		panic(got)
	}
	return s
}

// noSchemas are some that may not be.
func noSchemas() []api.Schema {
	of := func(list ...api.Type) api.Schema { return api.Schema{T: list} }
	field := func(name string, kind int, to string) api.Type {
		return api.Type{Name: "a", F: []api.Field{{Name: name, Kind: kind, To: to}}}
	}
	return []api.Schema{
		{}, of(api.Type{}), of(api.Type{Name: "1"}), of(api.Type{Name: "A"}), of(api.Type{Name: "a"}, api.Type{Name: "a"}), of(api.Type{Name: "abcdefghi"}),
		of(api.Type{Name: "a"}, api.Type{Name: "b"}, api.Type{Name: "c"}, api.Type{Name: "d"}, api.Type{Name: "e"}),
		of(field("", 0, "")), of(field("n", -1, "")), of(field("n", 6, "")), of(field("n", 0, "a")), of(field("n", 5, "")), of(field("n", 5, "b")), of(field("n", math.MinInt, "")), of(field("n", math.MaxInt, "")),
		of(api.Type{Name: "a", F: []api.Field{{Name: "n"}, {Name: "n"}}}), of(api.Type{Name: "a", F: make([]api.Field, 6)}), of(api.Type{Name: "b"}, field("n", 5, "c")),
	}
}

// cloneSchema shares nothing with a schema but its texts.
func cloneSchema(s api.Schema) api.Schema {
	x := api.Schema{T: slices.Clone(s.T)}
	for i := range x.T {
		x.T[i].F = slices.Clone(x.T[i].F)
	}
	return x
}

// clone shares nothing with a graph but its texts.
func clone(g api.Graph) api.Graph {
	x := api.Graph{S: cloneSchema(g.S), O: slices.Clone(g.O), Roots: slices.Clone(g.Roots)}
	for i := range x.O {
		x.O[i].F = slices.Clone(x.O[i].F)
	}
	return x
}

// with is a copy of g, changed.
func with(g api.Graph, change func(*api.Graph)) api.Graph {
	x := clone(g)
	change(&x)
	return x
}

// copyOf shares nothing with a delta but its texts.
func copyOf(d api.Delta) api.Delta {
	x := api.Delta{Base: d.Base, Roots: slices.Clone(d.Roots), L: slices.Clone(d.L)}
	for i := range x.L {
		x.L[i].Set = slices.Clone(x.L[i].Set)
	}
	return x
}

// but is a copy of d, changed.
func but(d api.Delta, change func(*api.Delta)) api.Delta {
	x := copyOf(d)
	change(&x)
	return x
}

// isSaid tells whether a delta is of a schema, word by word.
func isSaid(s api.Schema, d api.Delta) bool {
	is := schema.May(s)
	for _, id := range d.Roots {
		is = is && -1 <= id && id <= top
	}
	for _, x := range d.L {
		is = is && -1 <= x.From && x.From <= top && 0 <= x.T && x.T < len(s.T)
		for _, c := range x.Set {
			is = is && 0 <= c.F && c.F < len(s.T[x.T].F) && value.Fits(s.T[x.T].F[c.F], c.V)
		}
	}
	return is
}

// partsSaid are P12.1's parts, word by word, with the library's numbers, of a delta that is of the schema.
func partsSaid(s api.Schema, d api.Delta) [][]byte {
	roots := []byte{}
	for _, id := range d.Roots {
		roots = binary.AppendUvarint(roots, uint64(id+1))
	}
	parts := [][]byte{roots}
	for _, x := range d.L {
		part := binary.AppendUvarint(nil, uint64(x.From+1))
		part = binary.AppendUvarint(part, uint64(x.T))
		part = binary.AppendUvarint(part, uint64(len(x.Set)))
		for _, c := range x.Set {
			part = binary.AppendUvarint(part, uint64(c.F))
			part = appendValue(part, s.T[x.T].F[c.F], c.V)
		}
		parts = append(parts, part)
	}
	return parts
}

func appendValue(part []byte, f api.Field, v api.Val) []byte {
	switch f.Kind {
	case 4:
		return append(binary.AppendUvarint(part, uint64(len(v.S))), v.S...)
	case 5:
		return binary.AppendUvarint(part, uint64(v.R+1))
	}
	return binary.AppendVarint(part, int64(v.N))
}

// flowOf are the bytes of a flow of these parts, which may be.
func flowOf(base uint32, parts ...[]byte) []byte {
	b, e := flow.Put(api.Flow{Base: base, Parts: parts})
	if e != api.OK {
		panic(e)
	}
	return b
}

// putOf is P12.1's Put, word by word.
func putOf(s api.Schema, d api.Delta) ([]byte, api.Errno) {
	if !isSaid(s, d) {
		return nil, 1
	}
	parts := partsSaid(s, d)
	if len(parts) > 40 || slices.ContainsFunc(parts, func(p []byte) bool { return len(p) > 200 }) {
		return nil, 5
	}
	return flowOf(d.Base, parts...), 0
}

// getOf is P12.2's Get, word by word: the one delta that could be is guessed, and put again.
func getOf(s api.Schema, b []byte) (api.Delta, api.Errno) {
	if !schema.May(s) {
		return api.Delta{}, 1
	}
	f, e := flow.Get(b)
	if e != 0 {
		return api.Delta{}, e
	}
	d := guess(s, f)
	if again, e := putOf(s, d); e == 0 && bytes.Equal(again, b) {
		return d, 0
	}
	return api.Delta{}, 2
}

// guess is a delta that is put as this flow, if there is one; else any delta.
func guess(s api.Schema, f api.Flow) api.Delta {
	d := api.Delta{Base: f.Base}
	if len(f.Parts) == 0 {
		return d
	}
	for at := bytes.NewReader(f.Parts[0]); at.Len() > 0; {
		n, _ := binary.ReadUvarint(at)
		d.Roots = append(d.Roots, int(n-1))
	}
	for _, p := range f.Parts[1:] {
		at := bytes.NewReader(p)
		from, _ := binary.ReadUvarint(at)
		t, _ := binary.ReadUvarint(at)
		count, _ := binary.ReadUvarint(at)
		x := item(int(from-1), int(t))
		for range min(count, 201) {
			place, _ := binary.ReadUvarint(at)
			c := set(int(place), api.Val{})
			if t < uint64(len(s.T)) && place < uint64(len(s.T[t].F)) {
				c.V = guessValue(s.T[t].F[place], at)
			}
			x.Set = append(x.Set, c)
		}
		d.L = append(d.L, x)
	}
	return d
}

func guessValue(f api.Field, at *bytes.Reader) api.Val {
	switch f.Kind {
	case 4:
		n, _ := binary.ReadUvarint(at)
		b := make([]byte, min(n, 255))
		size, _ := at.Read(b)
		return text(string(b[:size]))
	case 5:
		n, _ := binary.ReadUvarint(at)
		return lead(int(n - 1))
	}
	n, _ := binary.ReadVarint(at)
	return num(int(n))
}

// restoreOf is P12.3's Restore, word by word, with Get's words.
func restoreOf(l [][]byte) (api.Graph, api.Errno) {
	if len(l) == 0 {
		return api.Graph{}, 11
	}
	g, e := code.Get(l[0])
	if e != 0 {
		return api.Graph{}, e
	}
	for _, b := range l[1:] {
		d, e := getOf(g.S, b)
		if e != 0 {
			return api.Graph{}, e
		}
		g, e = delta.Apply(g, d)
		if e != 0 {
			return api.Graph{}, e
		}
	}
	return g, 0
}

// wantPut holds Put against the words, and answers the bytes.
func wantPut(t testing.TB, s api.Schema, d api.Delta) ([]byte, api.Errno) {
	t.Helper()
	b, e := Put(s, d)
	if want, wantE := putOf(s, d); e != wantE || !bytes.Equal(b, want) {
		t.Fatalf("Put of %v and %v is %v, %d, not %v, %d", s, d, b, e, want, wantE)
	}
	return b, e
}

func wantNotPut(t testing.TB, s api.Schema, d api.Delta, want api.Errno) {
	t.Helper()
	if b, e := Put(s, d); e != want || len(b) != 0 {
		t.Fatalf("Put of %v and %v is %v, %d, not %d", s, d, b, e, want)
	}
	wantPut(t, s, d)
}

func wantRead(t testing.TB, s api.Schema, b []byte, want api.Delta, wantE api.Errno) {
	t.Helper()
	if d, e := Get(s, b); e != wantE || !delta.Same(d, want) {
		t.Fatalf("Get of %v and %v is %v, %d, not %v, %d", s, b, d, e, want, wantE)
	}
}

func wantRefused(t testing.TB, s api.Schema, b []byte, want api.Errno) {
	t.Helper()
	wantRead(t, s, b, api.Delta{}, want)
}

// wantGet holds Get against the words, and answers its error.
func wantGet(t testing.TB, s api.Schema, b []byte) api.Errno {
	t.Helper()
	want, wantE := getOf(s, b)
	wantRead(t, s, b, want, wantE)
	return wantE
}

// wantBoth has a delta be put, and read as it. It answers the bytes.
func wantBoth(t testing.TB, s api.Schema, d api.Delta) []byte {
	t.Helper()
	b, e := wantPut(t, s, d)
	if e != api.OK {
		t.Fatalf("Put of %v and %v: %d", s, d, e)
	}
	wantRead(t, s, b, d, api.OK)
	wantGet(t, s, b)
	return b
}

func wantRestored(t testing.TB, l [][]byte, want api.Graph, wantE api.Errno) {
	t.Helper()
	if g, e := Restore(l); e != wantE || !graph.Same(g, want) {
		t.Fatalf("Restore of %v is %v, %d, not %v, %d", l, g, e, want, wantE)
	}
}

// wantRestore holds Restore against the words, and answers its error.
func wantRestore(t testing.TB, l ...[]byte) api.Errno {
	t.Helper()
	want, wantE := restoreOf(l)
	wantRestored(t, l, want, wantE)
	return wantE
}

// errorOf is the error of a call.
func errorOf[A any](_ A, e api.Errno) api.Errno { return e }

// raw are frames, one behind the other, whatever their order.
func raw(list ...api.Frame) []byte {
	var b []byte
	for _, f := range list {
		put, e := frame.Put(f)
		if e != api.OK {
			panic(e)
		}
		b = append(b, put...)
	}
	return b
}

// n are the numbers' bytes, by the library.
func n(numbers ...uint64) []byte {
	var b []byte
	for _, x := range numbers {
		b = binary.AppendUvarint(b, x)
	}
	return b
}

func cat(parts ...[]byte) []byte { return slices.Concat(parts...) }

func ff(count int, last ...byte) []byte { return append(bytes.Repeat([]byte{255}, count), last...) }

// The chapter's example, byte by byte, by several schemas.
func TestExample(t *testing.T) {
	want := []byte{
		1, 3, 182, 204, 66, 210, 1, 0, 1, 0, 0, 0, 0,
		2, 1, 0, 0, 0, 0, 0, 0, 0, 0, 0,
		3, 1, 0, 0, 0, 0, 1, 0, 0, 0, 0,
	}
	// Where the bytes of sums stand: ahead of a body, and behind it.
	for _, at := range [][3]int{{0, 2, 6}, {6, 9, 13}, {13, 15, 19}, {19, 20, 24}, {24, 26, 30}, {30, 31, 35}} {
		binary.LittleEndian.PutUint32(want[at[1]:at[2]], crc32.ChecksumIEEE(want[at[0]:at[1]]))
	}
	for _, s := range texts() {
		if b := wantBoth(t, schemaOf(s), api.Delta{}); !bytes.Equal(b, want) || !bytes.Equal(b, flowOf(0, nil)) {
			t.Error(s, b)
		}
	}
}

// P12.1, by hand; and what is put is read as it.
func TestPut(t *testing.T) {
	s := schemaOf(kindsText)
	r := func(ids ...int) []int { return ids }
	const long = "123456789012"
	for _, x := range []struct {
		name  string
		roots []int
		items []api.Item
		want  [][]byte
	}{
		{"neither roots nor items", nil, nil, [][]byte{{}}},
		{"roots, but no items", r(-1, 0, 2), nil, [][]byte{{0, 1, 3}}},
		{"items, but no roots", nil, []api.Item{item(-1, 1)}, [][]byte{{}, {0, 1, 0}}},
		{"bounds of roots", r(-1, 0, top, top-1, 126, 127), nil, [][]byte{{0, 1, 129, 128, 128, 128, 4, 128, 128, 128, 128, 4, 127, 128, 1}}},
		{"one root often", r(5, 5, 5, 5, 5), nil, [][]byte{{6, 6, 6, 6, 6}}},
		{"bounds of From", nil, []api.Item{item(-1, 0), item(0, 0), item(126, 0), item(127, 0), item(top, 0)}, [][]byte{{}, {0, 0, 0}, {1, 0, 0}, {127, 0, 0}, {128, 1, 0, 0}, {129, 128, 128, 128, 4, 0, 0}}},
		{"From twice", nil, []api.Item{item(3, 0), item(3, 1), item(3, 0)}, [][]byte{{}, {4, 0, 0}, {4, 1, 0}, {4, 0, 0}}},
		{"each type", r(0), []api.Item{item(-1, 0), item(-1, 1)}, [][]byte{{1}, {0, 0, 0}, {0, 1, 0}}},
		{"an Int8", nil, []api.Item{item(-1, 0, set(0, num(0))), item(-1, 0, set(0, num(-1))), item(-1, 0, set(0, num(127))), item(-1, 0, set(0, num(-128)))}, [][]byte{{}, {0, 0, 1, 0, 0}, {0, 0, 1, 0, 1}, {0, 0, 1, 0, 254, 1}, {0, 0, 1, 0, 255, 1}}},
		{"an Int16", nil, []api.Item{item(-1, 0, set(1, num(32767))), item(-1, 0, set(1, num(-32768)))}, [][]byte{{}, {0, 0, 1, 1, 254, 255, 3}, {0, 0, 1, 1, 255, 255, 3}}},
		{"an Int32", nil, []api.Item{item(-1, 0, set(2, num(2147483647))), item(-1, 0, set(2, num(-2147483648)))}, [][]byte{{}, {0, 0, 1, 2, 254, 255, 255, 255, 15}, {0, 0, 1, 2, 255, 255, 255, 255, 15}}},
		{"an Int64", nil, []api.Item{item(-1, 0, set(3, num(math.MaxInt64))), item(-1, 0, set(3, num(math.MinInt64)))}, [][]byte{{}, cat([]byte{0, 0, 1, 3, 254}, ff(8, 1)), cat([]byte{0, 0, 1, 3}, ff(9, 1))}},
		{"a Text", nil, []api.Item{item(-1, 0, set(4, text(""))), item(-1, 0, set(4, text("\x00\xff"))), item(-1, 0, set(4, text(long)))}, [][]byte{{}, {0, 0, 1, 4, 0}, {0, 0, 1, 4, 2, 0, 255}, cat([]byte{0, 0, 1, 4, 12}, []byte(long))}},
		{"a Ref", nil, []api.Item{item(-1, 1, set(0, lead(-1))), item(-1, 1, set(0, lead(0))), item(-1, 1, set(0, lead(7))), item(-1, 1, set(0, lead(top)))}, [][]byte{{}, {0, 1, 1, 0, 0}, {0, 1, 1, 0, 1}, {0, 1, 1, 0, 8}, {0, 1, 1, 0, 129, 128, 128, 128, 4}}},
		{"all fields", nil, []api.Item{item(2, 0, set(0, num(1)), set(1, num(2)), set(2, num(3)), set(3, num(4)), set(4, text("5")))}, [][]byte{{}, {3, 0, 5, 0, 2, 1, 4, 2, 6, 3, 8, 4, 1, '5'}}},
		{"fields that fall", nil, []api.Item{item(2, 0, set(4, text("5")), set(1, num(2)), set(0, num(1)))}, [][]byte{{}, {3, 0, 3, 4, 1, '5', 1, 4, 0, 2}}},
		{"a field twice, the same and another value", nil, []api.Item{item(0, 0, set(0, num(1)), set(0, num(1)), set(0, num(-1)), set(4, text("")), set(0, num(1)))}, [][]byte{{}, {1, 0, 5, 0, 2, 0, 2, 0, 1, 4, 0, 0, 2}}},
		{"more cells than fields", nil, []api.Item{item(0, 1, set(0, lead(0)), set(0, lead(1)), set(0, lead(2)))}, [][]byte{{}, {1, 1, 3, 0, 1, 0, 2, 0, 3}}},
		{"items the same", r(9), []api.Item{item(0, 1, set(0, lead(0))), item(0, 1, set(0, lead(0)))}, [][]byte{{10}, {1, 1, 1, 0, 1}, {1, 1, 1, 0, 1}}},
	} {
		for _, base := range []uint32{0, 1, 127, 128, 300, 1 << 31, math.MaxUint32} {
			d := api.Delta{Base: base, Roots: x.roots, L: x.items}
			b, e := Put(s, d)
			if f, wrong := flow.Get(b); e != api.OK || wrong != api.OK || !flow.Same(f, api.Flow{Base: base, Parts: x.want}) {
				t.Errorf("%s: Put of %v is of %v, %d, not of %v", x.name, d, f, e, x.want)
			}
			if !bytes.Equal(wantBoth(t, s, d), flowOf(base, x.want...)) {
				t.Errorf("%s: %v", x.name, b)
			}
		}
	}
}

// P12.1: any Base, bit by bit.
func TestBases(t *testing.T) {
	s := schemaOf(kindsText)
	for bit := range 32 {
		for _, base := range []uint32{1 << bit, 1<<bit - 1, ^uint32(0) >> bit, ^uint32(1 << bit)} {
			d := api.Delta{Base: base, Roots: []int{0}, L: []api.Item{item(0, 1)}}
			if f, _ := flow.Get(wantBoth(t, s, d)); f.Base != base {
				t.Error(base, f)
			}
		}
	}
}

// good is a delta of richText.
func good() api.Delta {
	return api.Delta{Base: 77, Roots: []int{0, -1, 2}, L: []api.Item{item(1, 0, set(0, num(-1)), set(2, text("hi"))), item(-1, 1, set(0, lead(2)), set(1, lead(-1))), item(0, 3), item(-1, 2), item(4, 3, set(0, num(300)), set(1, num(-70000)), set(2, num(1<<40)), set(3, lead(0)), set(4, lead(3)))}}
}

// notOf are deltas that are not of richText, each in one part alone.
func notOf() map[string]api.Delta {
	list := map[string]api.Delta{}
	numbers := map[string]int{"-2": -2, "2^30 and one more": top + 1, "least": math.MinInt, "most": math.MaxInt, "of another word's size": 1 << 32, "wrapped round": -1 << 32}
	for name, id := range numbers {
		for i := range good().Roots {
			list["root "+name+" at "+string(rune('0'+i))] = but(good(), func(d *api.Delta) { d.Roots[i] = id })
		}
		list["root alone "+name] = api.Delta{Roots: []int{id}}
		list["root behind "+name] = but(good(), func(d *api.Delta) { d.Roots = append(d.Roots, id) })
		for i := range good().L {
			list["From "+name+" at "+string(rune('0'+i))] = but(good(), func(d *api.Delta) { d.L[i].From = id })
		}
		list["item alone, From "+name] = api.Delta{L: []api.Item{item(id, 0)}}
	}
	for name, t := range map[string]int{"-1": -1, "of no type": 4, "one more": 5, "least": math.MinInt, "most": math.MaxInt, "256": 256, "2^32": 1 << 32} {
		for i := range good().L {
			list["T "+name+" at "+string(rune('0'+i))] = but(good(), func(d *api.Delta) { d.L[i].T = t })
		}
		list["item alone, T "+name] = api.Delta{L: []api.Item{item(0, t)}}
	}
	for name, f := range map[string]int{"-1": -1, "of no field": 3, "one more": 4, "least": math.MinInt, "most": math.MaxInt, "256": 256, "2^32": 1 << 32} {
		for k := range 2 {
			list["F "+name+" at "+string(rune('0'+k))] = but(good(), func(d *api.Delta) { d.L[0].Set[k].F = f })
		}
		list["F behind "+name] = but(good(), func(d *api.Delta) { d.L[0].Set = append(d.L[0].Set, set(f, num(0))) })
		list["F without fields "+name] = but(good(), func(d *api.Delta) { d.L[3].Set = []api.Cell{set(f, api.Val{})} })
	}
	list["F 0 without fields"] = but(good(), func(d *api.Delta) { d.L[3].Set = []api.Cell{{}} })
	list["F of five, the sixth"] = but(good(), func(d *api.Delta) { d.L[4].Set[4].F = 5 })
	list["F of two, the third"] = but(good(), func(d *api.Delta) { d.L[1].Set[1].F = 2 })
	return list
}

// P12.1, R4: ErrArg of a schema that may not be, and of deltas that are not of one.
func TestOfNoSchema(t *testing.T) {
	s := schemaOf(richText)
	wantBoth(t, s, good())
	for _, no := range noSchemas() {
		wantNotPut(t, no, api.Delta{}, api.ErrArg)
		wantNotPut(t, no, good(), api.ErrArg)
		wantNotPut(t, no, api.Delta{L: []api.Item{{}}}, api.ErrArg)
		wantNotPut(t, no, api.Delta{L: []api.Item{{Set: []api.Cell{{}}}}}, api.ErrArg)
	}
	for name, d := range notOf() {
		if e := errorOf(Put(s, d)); e != api.ErrArg {
			t.Errorf("%s: Put of %v: %d", name, d, e)
		}
		wantNotPut(t, s, d, api.ErrArg)
	}
	// Of another schema, of which they are not.
	for _, x := range texts() {
		if e := errorOf(wantPut(t, schemaOf(x), good())); (e == api.OK) != (x == richText) {
			t.Error(x, e)
		}
	}
}

// P12.1: values of each kind that do not fit.
func TestOfOtherValues(t *testing.T) {
	numbers := []int{0, 1, -1, 127, 128, -128, -129, 32767, 32768, -32768, -32769, 1<<31 - 1, 1 << 31, -1 << 31, -1<<31 - 1, math.MaxInt64, math.MinInt64}
	var values []api.Val
	for _, x := range numbers {
		values = append(values, num(x), lead(x), api.Val{N: x, R: -1}, api.Val{N: x, R: 1}, api.Val{N: x, S: "a"}, api.Val{R: x, S: "a"})
	}
	for _, x := range []int{-2, top, top - 1, top + 1} {
		values = append(values, lead(x))
	}
	for size := range 15 {
		x := strings.Repeat("x", size)
		values = append(values, text(x), api.Val{S: x, N: 1}, api.Val{S: x, R: -1})
	}
	for kind := range 6 {
		f := api.Field{Name: "n", Kind: kind}
		if kind == 5 {
			f.To = "a"
		}
		s, fit := api.Schema{T: []api.Type{{Name: "a", F: []api.Field{f}}}}, 0
		for _, v := range values {
			d := api.Delta{L: []api.Item{item(-1, 0, set(0, v))}}
			if value.Fits(f, v) {
				fit++
				wantBoth(t, s, d)
			} else {
				wantNotPut(t, s, d, api.ErrArg)
			}
			d = api.Delta{L: []api.Item{item(0, 0), item(-1, 0, set(0, value.Zero(f)), set(0, v), set(0, value.Zero(f))), item(0, 0)}}
			wantPut(t, s, d)
		}
		if fit < 5 || fit > len(values)/2 {
			t.Error("too few values were tried:", kind, fit)
		}
	}
}

// wide is an item of kindsText whose part has so many bytes, from 3 on: cells have two, and up to two of them three.
func wide(size int) api.Item {
	x := item(-1, 0)
	rest := size - 3
	for rest > 0 {
		c := set(0, num(0))
		if rest%2 == 1 {
			c.V.N = 64 // it has two bytes by itself
			rest--
		}
		x.Set = append(x.Set, c)
		rest -= 2
	}
	return x
}

// P12.1: 40 parts, and 41, and more.
func TestManyParts(t *testing.T) {
	s := schemaOf(kindsText)
	for count := range 100 {
		want := api.OK
		if count > 39 {
			want = api.ErrLimit
		}
		for _, x := range []api.Item{item(-1, 0), item(count, 1, set(0, lead(count)))} {
			for _, roots := range [][]int{nil, {0}} {
				d := api.Delta{Base: 5, Roots: roots, L: slices.Repeat([]api.Item{x}, count)}
				if want == api.OK {
					f, _ := flow.Get(wantBoth(t, s, d))
					if len(f.Parts) != count+1 {
						t.Error(count, len(f.Parts))
					}
				} else {
					wantNotPut(t, s, d, want)
				}
			}
		}
	}
	for _, count := range []int{255, 256, 257, 1 << 16} {
		wantNotPut(t, s, api.Delta{L: make([]api.Item, count)}, api.ErrLimit)
	}
}

// P12.1: parts of 200 bytes, and of 201, and more: that of the roots, and each item's.
func TestLongParts(t *testing.T) {
	s := schemaOf(kindsText)
	try := func(d api.Delta, part, size int) {
		t.Helper()
		if got := len(partsSaid(s, d)[part]); got != size {
			t.Fatal("not the size that is tried:", got, size)
		}
		if size > 200 {
			wantNotPut(t, s, d, api.ErrLimit)
			return
		}
		if f, _ := flow.Get(wantBoth(t, s, d)); len(f.Parts[part]) != size {
			t.Error(size, f)
		}
	}
	for size := 150; size < 250; size++ {
		try(api.Delta{Roots: make([]int, size)}, 0, size)
		try(api.Delta{Roots: slices.Repeat([]int{-1}, size)}, 0, size)
		try(api.Delta{Roots: append(make([]int, size%2), slices.Repeat([]int{127}, size/2)...)}, 0, size)
		try(api.Delta{Roots: append(make([]int, size%5), slices.Repeat([]int{top}, size/5)...)}, 0, size)
		try(api.Delta{Roots: make([]int, size), L: []api.Item{item(0, 0)}}, 0, size)
		try(api.Delta{L: []api.Item{wide(size)}}, 1, size)
		other := append(make([]api.Item, 38), wide(size))
		try(api.Delta{Roots: []int{0}, L: other}, 39, size)
		slices.Reverse(other)
		try(api.Delta{Roots: []int{0}, L: other}, 1, size)
		// A From and values of other sizes.
		x := item(top, 0, set(4, text("123456789012")), set(3, num(math.MinInt64)))
		x.Set = append(x.Set, wide(size-4-14-11).Set...)
		try(api.Delta{L: []api.Item{x}}, 1, size)
	}
	all := api.Delta{Base: math.MaxUint32, Roots: make([]int, 200), L: slices.Repeat([]api.Item{wide(200)}, 39)}
	if f, _ := flow.Get(wantBoth(t, s, all)); len(f.Parts) != 40 || slices.ContainsFunc(f.Parts, func(p []byte) bool { return len(p) != 200 }) {
		t.Error("not the longest flow:", f)
	}
	for i := range 39 {
		wantNotPut(t, s, but(all, func(d *api.Delta) { d.L[i] = wide(201) }), api.ErrLimit)
	}
}

// R2, R4: ErrArg ahead of ErrLimit.
func TestWhichErrorOfPut(t *testing.T) {
	s := schemaOf(richText)
	for name, d := range notOf() {
		for _, x := range []api.Delta{
			but(d, func(d *api.Delta) { d.L = append(d.L, make([]api.Item, 60)...) }),
			but(d, func(d *api.Delta) { d.L = append(make([]api.Item, 60), d.L...) }),
			but(d, func(d *api.Delta) { d.Roots = append(d.Roots, make([]int, 201)...) }),
			but(d, func(d *api.Delta) { d.Roots = append(make([]int, 201), d.Roots...) }),
			but(d, func(d *api.Delta) {
				d.L = slices.Insert(d.L, len(d.L)/2, item(0, 0, slices.Repeat([]api.Cell{{}}, 120)...))
			}),
			but(d, func(d *api.Delta) { d.L = append(d.L, item(0, 0, slices.Repeat([]api.Cell{{}}, 120)...)) }),
		} {
			if e := errorOf(Put(s, x)); e != api.ErrArg {
				t.Errorf("%s, and much: %d", name, e)
			}
			wantNotPut(t, s, x, api.ErrArg)
		}
	}
	for _, no := range noSchemas() {
		wantNotPut(t, no, api.Delta{L: make([]api.Item, 60)}, api.ErrArg)
		wantNotPut(t, no, api.Delta{Roots: make([]int, 201)}, api.ErrArg)
	}
}

// rows are the parts of a delta of rowsSchema.
func rows() [][]byte {
	return [][]byte{{1, 0, 3}, {2, 1, 1, 0, 3}, {0, 2, 0}, {1, 0, 3, 0, 1, 1, 1, 2, 2, 'h', 'i'}}
}

const rowsText = "a{n:i8,o:*b,s:t}b{o:*a}c{}"

func rowsDelta() api.Delta {
	return api.Delta{Base: 300, Roots: []int{0, -1, 2}, L: []api.Item{item(1, 1, set(0, lead(2))), item(-1, 2), item(0, 0, set(0, num(-1)), set(1, lead(0)), set(2, text("hi")))}}
}

// instead is rows with another part i.
func instead(i int, part ...byte) []byte {
	parts := rows()
	parts[i] = part
	return flowOf(300, parts...)
}

// P12.2: what is read, by hand; and it is put as the same bytes.
func TestGet(t *testing.T) {
	s := schemaOf(rowsText)
	wantRead(t, s, flowOf(300, rows()...), rowsDelta(), api.OK)
	for _, x := range []struct {
		b    []byte
		want func(*api.Delta)
	}{
		{instead(0), func(d *api.Delta) { d.Roots = nil }},
		{instead(0, 0), func(d *api.Delta) { d.Roots = []int{-1} }},
		{instead(0, 128, 1, 127), func(d *api.Delta) { d.Roots = []int{127, 126} }},
		{instead(0, n(1<<30+1, 1<<30, 0)...), func(d *api.Delta) { d.Roots = []int{top, top - 1, -1} }},
		{instead(0, make([]byte, 200)...), func(d *api.Delta) { d.Roots = slices.Repeat([]int{-1}, 200) }},
		{instead(0, 0, 0, 0, 9, 9, 9), func(d *api.Delta) { d.Roots = []int{-1, -1, -1, 8, 8, 8} }},
		{instead(1, 0, 0, 0), func(d *api.Delta) { d.L[0] = item(-1, 0) }},
		{instead(1, 1, 0, 0), func(d *api.Delta) { d.L[0] = item(0, 0) }},
		{instead(1, 2, 0, 0), func(d *api.Delta) { d.L[0] = item(1, 0) }},
		{instead(1, 1, 1, 0), func(d *api.Delta) { d.L[0] = item(0, 1) }},
		{instead(1, 128, 1, 2, 0), func(d *api.Delta) { d.L[0] = item(127, 2) }},
		{instead(1, n(1<<30+1, 1, 0)...), func(d *api.Delta) { d.L[0] = item(top, 1) }},
		{instead(2, n(1<<30, 1, 1, 0, 1<<30+1)...), func(d *api.Delta) { d.L[1] = item(top-1, 1, set(0, lead(top))) }},
		{instead(2, 1, 1, 2, 0, 0, 0, 1), func(d *api.Delta) { d.L[1] = item(0, 1, set(0, lead(-1)), set(0, lead(0))) }},
		{instead(3, 0, 0, 1, 0, 255, 1), func(d *api.Delta) { d.L[2] = item(-1, 0, set(0, num(-128))) }},
		{instead(3, 0, 0, 1, 0, 254, 1), func(d *api.Delta) { d.L[2] = item(-1, 0, set(0, num(127))) }},
		{instead(3, 0, 0, 1, 2, 0), func(d *api.Delta) { d.L[2] = item(-1, 0, set(2, text(""))) }},
		{instead(3, 0, 0, 2, 2, 1, 2, 2, 1, 0), func(d *api.Delta) { d.L[2] = item(-1, 0, set(2, text("\x02")), set(2, text("\x00"))) }},
		{instead(3, append([]byte{0, 0, 1, 2, 12}, "123456789012"...)...), func(d *api.Delta) { d.L[2] = item(-1, 0, set(2, text("123456789012"))) }},
		{instead(3, 0, 0, 3, 2, 0, 1, 0, 0, 0), func(d *api.Delta) { d.L[2] = item(-1, 0, set(2, text("")), set(1, lead(-1)), set(0, num(0))) }},
		{flowOf(300, rows()[:1]...), func(d *api.Delta) { d.L = nil }},
		{flowOf(300, rows()[0], rows()[2]), func(d *api.Delta) { d.L = d.L[1:2] }},
		{flowOf(300, rows()[0], rows()[3], rows()[2], rows()[1]), func(d *api.Delta) { slices.Reverse(d.L) }},
		{flowOf(0, rows()...), func(d *api.Delta) { d.Base = 0 }},
		{flowOf(math.MaxUint32, rows()...), func(d *api.Delta) { d.Base = math.MaxUint32 }},
		{flowOf(300, slices.Concat(rows()[:1], slices.Repeat([][]byte{{0, 0, 0}}, 39))...), func(d *api.Delta) { d.L = slices.Repeat([]api.Item{item(-1, 0)}, 39) }},
		{instead(3, cat([]byte{0, 0, 98}, make([]byte, 2*98))...), func(d *api.Delta) { d.L[2] = item(-1, 0, make([]api.Cell, 98)...) }},
	} {
		want := but(rowsDelta(), x.want)
		wantRead(t, s, x.b, want, api.OK)
		if b := wantBoth(t, s, want); !bytes.Equal(b, x.b) {
			t.Errorf("%v is read as %v, but put as %v", x.b, want, b)
		}
	}
}

// P12.2: ErrForm of parts that are no delta's, by hand.
func TestGetOfNoDeltas(t *testing.T) {
	s := schemaOf(rowsText)
	huge := []uint64{1 << 8, 1<<30 + 3, 1 << 31, 1 << 32, 1<<32 + 1, 1<<32 + 2, 1 << 62, 1<<63 - 1, 1 << 63, 1<<63 + 1, 1<<63 + 2, math.MaxUint64 - 1, math.MaxUint64}
	// Numbers that are cut, or not in as few bytes as they could be, or of more than 64 bits.
	noNumbers := [][]byte{{128}, {255}, {128, 128}, {128, 0}, {129, 0}, {130, 128, 0}, {255, 128, 128, 0}, ff(9, 2), ff(10, 1), ff(20, 1), cat([]byte{128}, bytes.Repeat([]byte{128}, 9), []byte{0}), cat(bytes.Repeat([]byte{128}, 9), []byte{2})}
	parts := map[int][][]byte{
		0: {n(1<<30 + 2), n(1, 1<<30+2), n(1<<30+2, 1), n(1, 0, 1<<30+2), {1, 0, 131}, {131, 1, 0, 131}, ff(200), cat(make([]byte, 199), []byte{128})},
		// A b: nothing, parts that lack, a From above 2^30, a T of no type, a count that is not that of the cells, a place of no field, and bytes behind.
		1: {nil, {2}, {2, 1}, {2, 1, 1}, {2, 1, 1, 0}, {2, 1, 1, 0, 131}, {2, 1, 1, 0, 131, 0}, {2, 1, 1, 0, 3, 0}, {2, 1, 1, 0, 3, 3}, {2, 1, 1, 0, 3, 0, 0}, {2, 1, 0, 0, 3}, {2, 1, 0, 0}, {2, 1, 2, 0, 3}, {2, 1, 2, 0, 3, 0}, {2, 1, 2, 0, 3, 1, 0}, {2, 1, 3, 0, 3, 0, 3}, {2, 1, 1, 1, 3}, {2, 1, 1, 2, 3}, {2, 1, 1, 127, 3}, {2, 1, 2, 0, 3, 1, 3},
			n(1<<30+2, 1, 1, 0, 3), n(2, 3, 1, 0, 3), n(2, 3, 0), n(2, 4, 0), n(2, 127, 0), n(2, 128, 0), n(2, 1, 1, 0, 1<<30+2), n(2, 1, 127, 0, 3), n(2, 1, 128, 0, 3), n(2, 1, 199, 0, 3), n(2, 1, 200, 0, 3), n(2, 1, 201, 0, 3), n(2, 1, 255, 0, 3), n(2, 1, 256, 0, 3), n(2, 1, 257, 0, 3), n(0, 3, 0), n(0, 3)},
		// A c, which has no fields.
		2: {nil, {0}, {0, 2}, {0, 2, 0, 0}, {0, 2, 1}, {0, 2, 1, 0}, {0, 2, 1, 0, 0}, {0, 2, 2}, {0, 2, 2, 0, 0, 0, 0}, {0, 3, 0}, {0, 3, 1, 0, 0}, {0, 2, 127}},
		// An a: its cells lack, are more, or do not fit.
		3: {{1, 0, 3, 0, 1, 1, 1, 2, 2, 'h'}, {1, 0, 3, 0, 1, 1, 1, 2, 2}, {1, 0, 3, 0, 1, 1, 1, 2}, {1, 0, 3, 0, 1, 1, 1}, {1, 0, 3, 0, 1, 1}, {1, 0, 3, 0, 1}, {1, 0, 3, 0}, {1, 0, 3}, {1, 0, 2, 0, 1, 1, 1, 2, 2, 'h', 'i'}, {1, 0, 4, 0, 1, 1, 1, 2, 2, 'h', 'i'}, {1, 0, 0, 0, 1, 1, 1, 2, 2, 'h', 'i'},
			{1, 0, 3, 0, 1, 1, 1, 2, 2, 'h', 'i', 0}, {1, 0, 3, 0, 1, 1, 1, 2, 1, 'h', 'i'}, {1, 0, 3, 0, 1, 1, 1, 2, 3, 'h', 'i'}, {1, 0, 3, 0, 1, 1, 1, 3, 2, 'h', 'i'}, {1, 0, 1, 3, 0}, {1, 0, 1, 4, 0}, {1, 0, 2, 0, 0, 3, 0},
			{1, 0, 1, 0, 128, 2}, {1, 0, 1, 0, 129, 2}, {1, 0, 1, 0, 255, 255, 3}, {1, 0, 1, 0, 128, 0}, {1, 0, 1, 0, 128}, {1, 0, 1, 1, 128}, {1, 0, 1, 1, 130, 0}, {1, 0, 1, 2, 128}, {1, 0, 1, 2, 129, 0, 'a'}, cat([]byte{1, 0, 1, 1}, n(1<<30+2)), cat([]byte{1, 0, 1, 2, 13}, []byte("1234567890123")), cat([]byte{1, 0, 1, 2}, n(128), make([]byte, 128)),
			cat([]byte{1, 0, 98}, make([]byte, 2*97)), cat([]byte{1, 0, 97}, make([]byte, 2*98)), cat([]byte{1, 0, 99}, make([]byte, 197)), make([]byte, 200), ff(200)},
	}
	for _, x := range huge {
		parts[1] = append(parts[1], n(2, 1, x, 0, 3), n(2, x, 1, 0, 3), n(2, 1, 1, x, 3), n(2, 1, x), n(2, x))
		parts[2] = append(parts[2], n(0, 2, x), n(0, x, 0))
		parts[3] = append(parts[3], n(1, 0, 1, 0, x), n(1, 0, 1, 2, x), n(1, 0, x), n(1, 0, x, 0, 0))
		if x > 1<<30 {
			parts[0] = append(parts[0], n(x), n(1, x), n(x, 1))
			parts[1] = append(parts[1], n(x, 1, 1, 0, 3), n(2, 1, 1, 0, x), n(x, 1, 0))
			parts[2] = append(parts[2], n(x, 2, 0))
			parts[3] = append(parts[3], n(x, 0, 0), n(1, 0, 1, 1, x))
		}
	}
	for _, x := range noNumbers {
		parts[0] = append(parts[0], x, cat([]byte{1, 0}, x))
		parts[1] = append(parts[1], x, cat([]byte{2}, x), cat([]byte{2, 1}, x), cat([]byte{2, 1, 1}, x), cat([]byte{2, 1, 1, 0}, x), cat([]byte{2, 1, 1, 0, 3}, x))
		parts[3] = append(parts[3], cat([]byte{1, 0, 1, 0}, x), cat([]byte{1, 0, 1, 1}, x), cat([]byte{1, 0, 1, 2}, x))
		if len(x) > 8 || x[len(x)-1] == 0 { // no number, whatever stands behind
			parts[0] = append(parts[0], cat(x, []byte{1}))
			parts[1] = append(parts[1], cat(x, []byte{1, 1, 0, 3}), cat([]byte{2}, x, []byte{1, 0, 3}), cat([]byte{2, 1}, x, []byte{0, 3}), cat([]byte{2, 1, 1}, x, []byte{3}))
		}
	}
	for i, list := range parts {
		for _, part := range list {
			if got := errorOf(Get(s, instead(i, part...))); got != api.ErrForm {
				t.Errorf("Get of part %d, %v: %d", i, part, got)
			}
			wantRefused(t, s, instead(i, part...), api.ErrForm)
			wantGet(t, s, instead(i, part...))
		}
	}
}

// P12.2: without parts there is no delta, whatever the base; nor is one told by parts that have moved in.
func TestGetOfOtherParts(t *testing.T) {
	s := schemaOf(rowsText)
	for _, x := range texts() {
		for bit := range 32 {
			wantRefused(t, schemaOf(x), flowOf(1<<bit), api.ErrForm)
		}
		wantRefused(t, schemaOf(x), flowOf(0), api.ErrForm)
	}
	all := rows()
	for _, parts := range [][][]byte{
		{{}, {}}, {{}, {}, {}}, {all[0], {}}, {all[0], all[1], {}, all[3]}, {all[0], all[0]}, {{}, all[0]}, {{}, all[0], all[1]}, {all[1], all[2], all[0]}, {all[0], all[1], all[2], all[3], {}},
	} {
		wantRefused(t, s, flowOf(300, parts...), api.ErrForm)
		wantGet(t, s, flowOf(300, parts...))
	}
	// An item's part can be that of roots.
	wantRead(t, s, flowOf(300, all[1], all[2]), api.Delta{Base: 300, Roots: []int{1, 0, 0, -1, 2}, L: []api.Item{item(-1, 2)}}, api.OK)
}

// P12.2: the same bytes, by other schemas.
func TestGetByOtherSchemas(t *testing.T) {
	b := flowOf(7, nil, []byte{1, 0, 1, 0, 3})
	for x, want := range map[string]api.Val{"a{n:i8}": num(-2), "x{y:i64,z:t}": num(-2), "a{n:i16}b{}": num(-2), "a{o:*a}": lead(2), "a{o:*b}b{}": lead(2)} {
		wantRead(t, schemaOf(x), b, api.Delta{Base: 7, L: []api.Item{item(0, 0, set(0, want))}}, api.OK)
	}
	for _, x := range []string{"a{}", "a{s:t}", "a{}b{n:i8}"} {
		wantRefused(t, schemaOf(x), b, api.ErrForm)
	}
	for _, x := range texts() {
		for _, other := range texts() {
			wantGet(t, schemaOf(other), wantBoth(t, schemaOf(x), api.Delta{Base: 3, Roots: []int{0}, L: []api.Item{item(-1, 0), item(2, 0)}}))
		}
		wantGet(t, schemaOf(x), flowOf(300, rows()...))
		wantGet(t, schemaOf(x), flowOf(0, partsSaid(schemaOf(richText), good())...))
	}
}

// flows are bytes that are none's flow, by flow's error.
func flows(b []byte) map[api.Errno][][]byte {
	turned := func(at int) []byte {
		x := slices.Clone(b)
		x[at] ^= 4
		return x
	}
	cuts, ok := flow.Cuts(b)
	if !ok {
		panic("no flow")
	}
	head, tail := api.Frame{Kind: 1, Body: []byte{1, 0, 2}}, api.Frame{Kind: 3, Body: []byte{2}}
	first, second := api.Frame{Kind: 2, Body: []byte{0, 1}}, api.Frame{Kind: 2, Body: []byte{1, 0, 0, 0}}
	long := api.Frame{Kind: 2, Body: make([]byte, 202)}
	return map[api.Errno][][]byte{
		api.ErrForm: {{1}, []byte("a{}"), b[:5], b[:len(b)-1], append(slices.Clone(b), 0), append(slices.Clone(b), 1, 2, 3, 4, 5)},
		api.ErrSum:  {make([]byte, 6), []byte("a{n:i32,o:*a}"), b[1:], turned(0), turned(1), turned(7), turned(len(b) - 1), turned(len(b) / 2)},
		api.ErrOrder: {nil, {}, b[:cuts[1]], b[cuts[1]:], b[:cuts[len(cuts)-2]], slices.Concat(b, b), raw(head), raw(head, tail), raw(head, first, tail), raw(head, second, first, tail), raw(head, first, second), raw(first, second), raw(tail), raw(head, first, second, tail, tail), raw(head, head, first, second, tail),
			raw(api.Frame{Kind: 1, Body: []byte{2, 0, 2}}, first, second, tail), raw(api.Frame{Kind: 1, Body: []byte{1, 128, 0, 2}}, first, second, tail), raw(head, api.Frame{Kind: 2, Body: []byte{128, 0, 1}}, second, tail), raw(head, api.Frame{Kind: 4, Body: []byte{0, 1}}, second, tail), raw(head, long, second, tail)},
	}
}

// P12.2, R2, R4: ErrArg, then each of flow's errors, then ErrForm, and nothing beside one.
func TestWhichErrorOfGet(t *testing.T) {
	s := schemaOf(rowsText)
	fine, none := flowOf(300, rows()...), instead(3, 128)
	count := map[api.Errno]int{}
	for _, whole := range [][]byte{fine, none, flowOf(300), flowOf(5, nil)} {
		for e, list := range flows(whole) {
			for _, b := range list {
				if got := errorOf(flow.Get(b)); got != e {
					t.Fatalf("flow's error of %v is %d, not %d", b, got, e)
				}
				wantRefused(t, s, b, e)
				count[e]++
				for _, no := range noSchemas() {
					wantRefused(t, no, b, api.ErrArg)
				}
			}
		}
	}
	if len(count) != 3 {
		t.Error(count)
	}
	wantRead(t, s, fine, rowsDelta(), api.OK)
	wantRefused(t, s, none, api.ErrForm)
	for _, no := range noSchemas() {
		for _, b := range [][]byte{fine, none, flowOf(0), flowOf(0, nil), {1}, nil} {
			wantRefused(t, no, b, api.ErrArg)
			wantGet(t, no, b)
		}
	}
}

// P12.2: what code's Put makes of a graph is no delta's, but where the words say that it is one's.
func TestGetOfGraphs(t *testing.T) {
	next, count := chance(1201), map[api.Errno]int{}
	for range 3000 {
		g := byChance(next)
		b, e := code.Put(g)
		if e != api.OK {
			t.Fatal(e)
		}
		count[wantGet(t, g.S, b)]++
		count[wantGet(t, schemaOf(texts()[next(len(texts()))]), b)]++
	}
	if count[api.ErrForm] < 3000 {
		t.Error("too few graphs were tried:", count)
	}
	for _, g := range []api.Graph{of("a{}"), of(richText), rooted(of("a{}"), -1), rooted(of("a{n:i8}", obj(0, 0, num(1))), 0), rooted(of("a{}", obj(3, 0)), 3), rooted(of("a{}b{}", obj(3, 0), obj(4, 1)), 4, 3)} {
		b, _ := code.Put(g)
		wantRefused(t, g.S, b, api.ErrForm)
	}
	// Of three roots of none the parts happen to be those of roots, and of an item.
	g := rooted(of("a{}"), -1, -1, -1)
	b, _ := code.Put(g)
	wantRead(t, g.S, b, api.Delta{Roots: []int{'a' - 1, '{' - 1, '}' - 1}, L: []api.Item{item(-1, 0)}}, api.OK)
	wantGet(t, g.S, b)
}

// words are all rows of up to so many of these bytes.
func words(most int, letters ...byte) [][]byte {
	list := [][]byte{{}}
	for at := 0; at < len(list); at++ {
		if w := list[at]; len(w) < most {
			for _, x := range letters {
				list = append(list, append(slices.Clone(w), x))
			}
		}
	}
	return list
}

// smallItems are, by their bytes, all items of a schema that have at most so many of 0 to 3.
func smallItems(s api.Schema, most int) map[string]api.Item {
	found := map[string]api.Item{}
	var grow func(part []byte, x api.Item, more int)
	grow = func(part []byte, x api.Item, more int) {
		if more == 0 {
			found[string(part)] = x
			return
		}
		for place, f := range s.T[x.T].F {
			for _, v := range smallValues(f, most-len(part)-1) {
				longer := appendValue(append(slices.Clone(part), byte(place)), f, v)
				if len(longer) <= most {
					grow(longer, item(x.From, x.T, append(slices.Clone(x.Set), set(place, v))...), more-1)
				}
			}
		}
	}
	for from := -1; from < 3; from++ {
		for kind := range s.T {
			for count := range 4 {
				grow([]byte{byte(from + 1), byte(kind), byte(count)}, item(from, kind), count)
			}
		}
	}
	return found
}

func smallValues(f api.Field, most int) []api.Val {
	var list []api.Val
	switch f.Kind {
	case 4:
		for _, w := range words(min(3, most-1), 0, 1, 2, 3) {
			list = append(list, text(string(w)))
		}
	case 5:
		list = []api.Val{lead(-1), lead(0), lead(1), lead(2)}
	default:
		list = []api.Val{num(0), num(-1), num(1), num(-2)}
	}
	return list
}

// P12.2: of all small parts just those are read that are some item's, of which all are gone through by themselves.
func TestGetOfAllSmall(t *testing.T) {
	const most = 7
	all := words(most, 0, 1, 2, 3)
	for _, x := range []string{"a{n:i8,s:t}b{}c{o:*a}", "a{}b{n:i64,o:*b,m:i16}", "a{s:t}b{s:t,r:t}", "a{o:*d}b{o:*a}c{o:*b}d{o:*c,p:*c}"} {
		s := schemaOf(x)
		want, read := smallItems(s, most), 0
		for _, part := range all {
			b := flowOf(9, []byte{1}, part)
			if i, is := want[string(part)]; is {
				read++
				wantRead(t, s, b, api.Delta{Base: 9, Roots: []int{0}, L: []api.Item{i}}, api.OK)
			} else {
				wantRefused(t, s, b, api.ErrForm)
			}
		}
		if read != len(want) || read < 100 {
			t.Errorf("only %d of %d items of %s are among them", read, len(want), x)
		}
	}
}

// P12.2: all small parts of bytes near bounds, as roots and as items, against the words.
func TestGetOfNearBounds(t *testing.T) {
	s, count := schemaOf("a{n:i8,s:t,o:*b}b{w:i32}"), map[api.Errno]int{}
	for _, part := range words(4, 0, 1, 2, 4, 127, 128, 129, 255) {
		count[wantGet(t, s, flowOf(1, part))]++
		count[wantGet(t, s, flowOf(1, nil, part))]++
		for _, ahead := range [][]byte{{1, 0, 1}, {0, 1, 1, 0}, {0, 0, 2, 1, 0}} {
			count[wantGet(t, s, flowOf(1, nil, cat(ahead, part)))]++
		}
	}
	if count[api.OK] < 2000 || count[api.ErrForm] < 2000 || len(count) != 2 {
		t.Error("too few parts were tried:", count)
	}
	// About 2^30, and about 2^64.
	for _, first := range []byte{127, 128, 129, 130, 255} {
		for last := range 256 {
			for _, size := range []int{3, 8} {
				x := cat([]byte{first}, bytes.Repeat([]byte{128}, size), []byte{byte(last)})
				for _, part := range [][]byte{x, cat([]byte{1}, x), cat(x, []byte{1}), cat(x, x)} {
					wantGet(t, s, flowOf(1, part))
				}
				for _, part := range [][]byte{cat(x, []byte{0, 0}), cat([]byte{0, 0}, x), cat([]byte{0}, x, []byte{0}), cat([]byte{0, 0, 1}, x, []byte{0}), cat([]byte{0, 0, 1, 2}, x), cat([]byte{0, 1, 1, 0}, x), cat([]byte{0, 0, 1, 1}, x)} {
					wantGet(t, s, flowOf(1, nil, part))
				}
			}
		}
	}
}

// chance hands on numbers that look like chance, the same ones each time.
func chance(seed uint64) func(below int) int {
	return func(below int) int {
		seed = seed*6364136223846793005 + 1442695040888963407
		return int(seed >> 33 % uint64(below))
	}
}

// byChance is a graph that may be, of up to eight objects.
func byChance(next func(int) int) api.Graph {
	g := of(texts()[next(len(texts()))])
	id := next(3)
	for range next(9) {
		g.O = append(g.O, obj(id, next(len(g.S.T))))
		id += 1 + next(2)*next(4)
	}
	for i := range g.O {
		for _, f := range g.S.T[g.O[i].T].F {
			g.O[i].F = append(g.O[i].F, valueByChance(next, g, f))
		}
	}
	for range next(4) {
		g.Roots = append(g.Roots, rootByChance(next, g))
	}
	return g
}

func rootByChance(next func(int) int, g api.Graph) int {
	if len(g.O) == 0 || next(5) == 0 {
		return -1
	}
	return g.O[next(len(g.O))].Id
}

// valueByChance is one that g may have there.
func valueByChance(next func(int) int, g api.Graph, f api.Field) api.Val {
	if f.Kind != 5 {
		return plainByChance(next, f)
	}
	ids := []int{-1}
	for _, o := range g.O {
		if g.S.T[o.T].Name == f.To {
			ids = append(ids, o.Id)
		}
	}
	return lead(ids[next(len(ids))])
}

// plainByChance is one that fits, and leads to nothing.
func plainByChance(next func(int) int, f api.Field) api.Val {
	if f.Kind == 4 {
		return text("1\x00ä\xff6789012"[:next(2)*next(13)])
	}
	bits := []int{7, 15, 31, 63}[f.Kind]
	most := 1<<bits - 1
	return num([]int{0, 1, -1, 63, -65, most, -most - 1, next(1<<31) >> (31 - min(bits, 31))}[next(8)])
}

// laterOf is what g may have become: some objects are new, some gone, and some have other values; of Ids that both have the types are the same.
func laterOf(next func(int) int, g api.Graph) api.Graph {
	x := clone(g)
	for range next(6) {
		switch next(6) {
		case 0:
			x = more(next, x)
		case 1:
			x = less(next, x)
		case 2:
			x.Roots = nil
			for range next(4) {
				x.Roots = append(x.Roots, rootByChance(next, x))
			}
		default:
			setByChance(next, x)
		}
	}
	return x
}

func setByChance(next func(int) int, g api.Graph) {
	if len(g.O) == 0 {
		return
	}
	o := g.O[next(len(g.O))]
	if len(o.F) > 0 {
		k := next(len(o.F))
		o.F[k] = valueByChance(next, g, g.S.T[o.T].F[k])
	}
}

// more is g with an object more, if there is room. Its Id is none of the few that graphs by chance have, and tells its type.
func more(next func(int) int, g api.Graph) api.Graph {
	id := 100 + next(40)
	if len(g.O) == 8 || graph.Find(g, id) >= 0 {
		return g
	}
	o := obj(id, id%len(g.S.T))
	g.O = append(g.O, o)
	slices.SortFunc(g.O, func(a, b api.Obj) int { return a.Id - b.Id })
	i := graph.Find(g, id)
	for _, f := range g.S.T[o.T].F {
		g.O[i].F = append(g.O[i].F, valueByChance(next, g, f))
	}
	if len(g.Roots) < 3 && next(2) == 0 {
		g.Roots = append(g.Roots, id)
	} else {
		setByChance(next, g)
	}
	return g
}

// less is g with an object less, and with none in its place.
func less(next func(int) int, g api.Graph) api.Graph {
	if len(g.O) == 0 {
		return g
	}
	i := next(len(g.O))
	id := g.O[i].Id
	g.O = slices.Delete(g.O, i, i+1)
	for _, o := range g.O {
		for k, f := range g.S.T[o.T].F {
			if f.Kind == 5 && o.F[k].R == id {
				o.F[k].R = -1
			}
		}
	}
	for i := range g.Roots {
		if g.Roots[i] == id {
			g.Roots[i] = -1
		}
	}
	return g
}

// deltaByChance is any one that is of the schema, whether or not it can be applied to something.
func deltaByChance(next func(int) int, s api.Schema) api.Delta {
	ids := []int{-1, 0, 1, 2, 5, 126, 127, 128, 16382, 16383, 1 << 20, top - 1, top}
	id := func() int { return ids[next(len(ids))] }
	d := api.Delta{Base: []uint32{0, 1, 300, 1 << 31, math.MaxUint32, uint32(next(1 << 31))}[next(6)]}
	for range next(2) * next(8) {
		d.Roots = append(d.Roots, id())
	}
	for range next(6) {
		x := item(id(), next(len(s.T)))
		fields := s.T[x.T].F
		for range next(9) * min(1, len(fields)) {
			c := set(next(len(fields)), lead(0))
			if f := fields[c.F]; f.Kind == 5 {
				c.V.R = id()
			} else {
				c.V = plainByChance(next, f)
			}
			x.Set = append(x.Set, c)
		}
		d.L = append(d.L, x)
	}
	return d
}

// P12.1, P12.2, P12.4: many deltas by chance, and those that become of graphs: what is put is read as it.
func TestAgainstTheWords(t *testing.T) {
	next, sizes := chance(1202), map[int]int{}
	for range 15000 {
		s := schemaOf(texts()[next(len(texts()))])
		d := deltaByChance(next, s)
		wantBoth(t, s, d)
		sizes[len(d.L)]++
		g := byChance(next)
		made, e := delta.Make(g, laterOf(next, g))
		if e != api.OK {
			t.Fatal(e)
		}
		wantBoth(t, g.S, made)
		sizes[len(made.L)]++
	}
	for size := range 9 {
		if sizes[size] < 20 {
			t.Error("too few deltas were tried, by how many items they have:", sizes)
		}
	}
}

// spot changes one part of a delta, most times.
func spot(next func(int) int, d *api.Delta) {
	few := []int{-2, -1, 0, 1, 2, 3, 4, 5, 8, 128, 256, 32768, top, top + 1, 1 << 32, math.MinInt, math.MaxInt}
	i, k := few[next(len(few))], next(max(1, len(d.L)))
	switch {
	case len(d.L) == 0 || next(8) == 0:
		d.Roots = append(d.Roots, i)
		return
	case next(4) == 0:
		d.L[k].From = i
		return
	case next(4) == 0:
		d.L[k].T = i
		return
	}
	v := []api.Val{num(i), lead(i), text("a"), text("1234567890123"), {N: i, S: "a"}, {N: 1, R: i}}[next(6)]
	x := &d.L[k]
	if len(x.Set) == 0 || next(4) == 0 {
		x.Set = append(x.Set, set(i, v))
		return
	}
	c := &x.Set[next(len(x.Set))]
	if next(2) == 0 {
		c.F = i
	} else {
		c.V = v
	}
}

// P12.1: Put of deltas of which some parts are others, against the words.
func TestPutAgainstTheWords(t *testing.T) {
	next, count := chance(1203), map[api.Errno]int{}
	for range 30000 {
		s := schemaOf(texts()[next(len(texts()))])
		d := deltaByChance(next, s)
		for range next(3) {
			spot(next, &d)
		}
		switch next(12) {
		case 0:
			d.L = append(d.L, make([]api.Item, 33+next(10))...)
		case 1:
			d.Roots = append(d.Roots, make([]int, 190+next(12))...)
		case 2:
			if len(d.L) > 0 && len(d.L[0].Set) > 0 {
				c := d.L[0].Set[:1]
				d.L[0].Set = append(d.L[0].Set, slices.Repeat(c, 12+next(90))...)
			}
		}
		_, e := wantPut(t, s, d)
		count[e]++
		if e == api.OK {
			wantBoth(t, s, d)
		}
	}
	if count[api.OK] < 5000 || count[api.ErrArg] < 5000 || count[api.ErrLimit] < 1000 {
		t.Error("too few deltas were tried:", count)
	}
}

// spotParts changes parts by chance: a byte, a byte more or less, or the parts' order.
func spotParts(next func(int) int, parts [][]byte) [][]byte {
	few := []byte{0, 1, 2, 3, 4, 8, 9, 12, 13, 127, 128, 129, 255, 'a'}
	i := next(len(parts))
	p, x := slices.Clone(parts[i]), few[next(len(few))]
	parts = slices.Clone(parts)
	switch next(7) {
	case 0:
		p = slices.Insert(p, next(len(p)+1), x)
	case 1:
		if len(p) > 0 {
			at := next(len(p))
			p = slices.Delete(p, at, at+1)
		}
	case 2, 3:
		if len(p) > 0 {
			p[next(len(p))] = x
		}
	case 4:
		k := next(len(parts))
		parts[i], parts[k] = parts[k], parts[i]
		return parts
	case 5:
		return slices.Delete(parts, i, i+1)
	case 6:
		return slices.Insert(parts, next(len(parts)+1), p)
	}
	parts[i] = p
	return parts
}

// P12.2, P12.4: Get of parts with some changes, against the words; and what is read is put as the same bytes.
func TestGetAgainstTheWords(t *testing.T) {
	next, count := chance(1204), map[api.Errno]int{}
	for range 30000 {
		s := schemaOf(texts()[next(len(texts()))])
		d := deltaByChance(next, s)
		parts := partsSaid(s, d)
		for range 1 + next(2) {
			if len(parts) > 0 {
				parts = spotParts(next, parts)
			}
		}
		if slices.ContainsFunc(parts, func(p []byte) bool { return len(p) > 200 }) {
			continue
		}
		b := flowOf(d.Base, parts...)
		e := wantGet(t, s, b)
		count[e]++
		if e == api.OK {
			got, _ := Get(s, b)
			if again, e := Put(s, got); e != api.OK || !bytes.Equal(again, b) {
				t.Fatalf("%v is read as %v, and put as %v, %d", b, got, again, e)
			}
		}
	}
	if count[api.OK] < 5000 || count[api.ErrForm] < 10000 {
		t.Error("too few parts were tried:", count)
	}
	for range 5000 {
		b := make([]byte, next(60))
		for i := range b {
			b[i] = byte(next(256))
		}
		wantGet(t, schemaOf(richText), b)
		wantRestore(t, b)
	}
}

// others are deltas of rowsText of which no two are the same.
func others() []api.Delta {
	list := []api.Delta{rowsDelta(), {}, {Base: 300}, {Roots: []int{0}}, {Roots: []int{-1}}, {Roots: []int{-1, -1}}, {L: []api.Item{{}}}, {L: []api.Item{{}, {}}}, {L: []api.Item{{Set: []api.Cell{{}}}}}, {L: []api.Item{{From: -1}}}}
	for _, change := range []func(*api.Delta){
		func(d *api.Delta) { d.Base = 301 }, func(d *api.Delta) { d.Base = 0 }, func(d *api.Delta) { d.Base |= 1 << 31 },
		func(d *api.Delta) { d.Roots[0] = 2 }, func(d *api.Delta) { d.Roots[1] = 0 }, func(d *api.Delta) { d.Roots[2] = -1 }, func(d *api.Delta) { d.Roots = d.Roots[:2] }, func(d *api.Delta) { d.Roots = append(d.Roots, -1) }, func(d *api.Delta) { d.Roots = nil }, func(d *api.Delta) { slices.Reverse(d.Roots) },
		func(d *api.Delta) { d.L = d.L[:2] }, func(d *api.Delta) { d.L = d.L[1:] }, func(d *api.Delta) { d.L = nil }, func(d *api.Delta) { d.L = append(d.L, api.Item{}) }, func(d *api.Delta) { slices.Reverse(d.L) },
		func(d *api.Delta) { d.L[0].From = 2 }, func(d *api.Delta) { d.L[1].From = 0 }, func(d *api.Delta) { d.L[2].From = top }, func(d *api.Delta) { d.L[1].T = 0 }, func(d *api.Delta) { d.L[1].T = 1 },
		func(d *api.Delta) { d.L[0].Set[0].V.R = -1 }, func(d *api.Delta) { d.L[0].Set[0].V.R = top }, func(d *api.Delta) { d.L[2].Set[0].V.N = 1 }, func(d *api.Delta) { d.L[2].Set[0].V.N = 127 }, func(d *api.Delta) { d.L[2].Set[2].V.S = "" }, func(d *api.Delta) { d.L[2].Set[2].V.S = "hI" }, func(d *api.Delta) { d.L[2].Set[2].V.S = "h" },
		func(d *api.Delta) { d.L[2].Set = d.L[2].Set[:1] }, func(d *api.Delta) { d.L[2].Set = d.L[2].Set[1:] }, func(d *api.Delta) { d.L[2].Set = nil }, func(d *api.Delta) { slices.Reverse(d.L[2].Set) }, func(d *api.Delta) { d.L[2].Set = append(d.L[2].Set, d.L[2].Set[2]) }, func(d *api.Delta) { d.L[2].Set[0] = d.L[2].Set[1] },
	} {
		list = append(list, but(rowsDelta(), change))
	}
	return list
}

// P12.4: of two deltas the bytes are the same just if these are.
func TestNoTwoAlike(t *testing.T) {
	s := schemaOf(rowsText)
	next, list := chance(1205), others()
	byHand := len(list)
	for range 300 {
		list = append(list, deltaByChance(next, s))
	}
	var put [][]byte
	for _, d := range list {
		put = append(put, wantBoth(t, s, d))
	}
	for i, a := range list {
		for k, b := range list {
			if bytes.Equal(put[i], put[k]) != delta.Same(a, b) {
				t.Fatalf("%v and %v are put as %v and %v", a, b, put[i], put[k])
			}
			if i < k && k < byHand && delta.Same(a, b) {
				t.Error("the same:", i, k)
			}
		}
	}
}

// row is a graph, and what it became, step by step: no two one behind the other are alike.
func row() []api.Graph {
	first := rooted(of(rowsText, obj(2, 0, num(3), lead(6), text("x")), obj(4, 2), obj(6, 1, lead(2))), 6)
	second := with(first, func(g *api.Graph) { g.O[0].F[0].N = 4 })
	third := with(second, func(g *api.Graph) { g.O[0].F[2].S, g.Roots = "hi", []int{2, -1, 4} })
	fourth := with(third, func(g *api.Graph) {
		g.O[2].F[0].R = -1
		g.O = append(g.O, obj(9, 1, lead(2)))
		g.Roots = []int{9, 6}
	})
	return []api.Graph{first, second, third, fourth}
}

// flowsOf are the full flow of the first graph, and the flow of each delta from one to the next.
func flowsOf(t testing.TB, list ...api.Graph) [][]byte {
	t.Helper()
	full, e := code.Put(list[0])
	if e != api.OK {
		t.Fatalf("%v has no bytes: %d", list[0], e)
	}
	all := [][]byte{full}
	for i, g := range list[1:] {
		all = append(all, stepOf(t, list[i], g))
	}
	return all
}

// stepOf are the bytes of what becomes of a.
func stepOf(t testing.TB, a, b api.Graph) []byte {
	t.Helper()
	d, e := delta.Make(a, b)
	if e != api.OK {
		t.Fatalf("of %v nothing becomes %v: %d", a, b, e)
	}
	put, e := Put(a.S, d)
	if e != api.OK {
		t.Fatalf("Put of %v: %d", d, e)
	}
	return put
}

// P12.3, by hand: one flow alone, and several.
func TestRestore(t *testing.T) {
	list := row()
	all := flowsOf(t, list...)
	for i, g := range list {
		wantRestored(t, all[:i+1], canon.Canon(g), api.OK)
		wantRestore(t, all[:i+1]...)
		full, _ := code.Put(g)
		wantRestored(t, append([][]byte{full}, all[i+1:]...), canon.Canon(list[3]), api.OK)
	}
	want := rooted(of(rowsText, obj(0, 1, lead(2)), obj(1, 1, lead(-1)), obj(2, 0, num(4), lead(1), text("hi"))), 0, 1)
	wantRestored(t, all, want, api.OK)
	for _, s := range texts() {
		full, _ := code.Put(of(s))
		wantRestored(t, [][]byte{full}, of(s), api.OK)
		same := stepOf(t, of(s), of(s))
		wantRestored(t, [][]byte{full, same, same, same}, of(s), api.OK)
		roots := stepOf(t, of(s), rooted(of(s), -1, -1, -1))
		wantRestored(t, [][]byte{full, same, roots}, rooted(of(s), -1, -1, -1), api.OK)
	}
}

// P12.3, by hand: the delta need not be one that Make makes, if it can be applied.
func TestRestoreOfOtherDeltas(t *testing.T) {
	g := row()[0]
	full, _ := code.Put(g)
	sum, _ := code.Sum(g)
	for _, x := range []struct {
		d    api.Delta
		want api.Graph
	}{
		{api.Delta{Base: sum}, of(rowsText)},
		{api.Delta{Base: sum, Roots: []int{-1, -1}}, rooted(of(rowsText), -1, -1)},
		{api.Delta{Base: sum, Roots: []int{0}, L: []api.Item{item(1, 0, set(0, num(3)), set(1, lead(-1)), set(2, text("x")))}}, rooted(of(rowsText, obj(0, 0, num(3), lead(-1), text("x"))), 0)},
		{api.Delta{Base: sum, Roots: []int{0, 1}, L: []api.Item{item(-1, 2), item(-1, 2)}}, rooted(of(rowsText, obj(0, 2), obj(1, 2)), 0, 1)},
	} {
		b := wantBoth(t, g.S, x.d)
		wantRestored(t, [][]byte{full, b}, x.want, api.OK)
		wantRestored(t, [][]byte{full, b, stepOf(t, x.want, g)}, canon.Canon(g), api.OK)
	}
}

// P12.3, R2, R4: ErrNone of no flows, and else the first error, whatever stands behind.
func TestRestoreErrors(t *testing.T) {
	is := func(name string, want api.Errno, l ...[]byte) {
		t.Helper()
		for _, more := range [][][]byte{nil, {nil}, {{1}}, {make([]byte, 6)}, l} {
			list := append(slices.Clone(l), more...)
			if g, e := Restore(list); e != want || !graph.Same(g, api.Graph{}) {
				t.Errorf("%s: Restore of %v is %v, %d, not %d", name, list, g, e, want)
			}
			wantRestore(t, list...)
		}
	}
	wantRestored(t, nil, api.Graph{}, api.ErrNone)
	wantRestored(t, [][]byte{}, api.Graph{}, api.ErrNone)
	all := flowsOf(t, row()...)
	s, full, step := row()[0].S, all[0], all[1]
	noForm := but(rowsDelta(), func(d *api.Delta) { d.Base, _ = code.Sum(row()[0]) })
	fits := func(change func(*api.Delta)) []byte { return wantBoth(t, s, but(noForm, change)) }
	is("a delta first", api.ErrForm, step)
	is("two deltas", api.ErrForm, step, all[2])
	is("no parts", api.ErrForm, flowOf(0))
	is("an empty part", api.ErrForm, flowOf(0, nil))
	is("a full flow of another base", api.ErrForm, flowOf(1, []byte("a{}"), nil))
	is("no bytes", api.ErrOrder, []byte{})
	is("a full flow twice", api.ErrForm, full, full)
	is("of another base", api.ErrBase, full, all[2])
	is("the same one twice", api.ErrBase, full, step, step)
	is("of one further", api.ErrBase, full, step, all[3])
	is("of no schema's type", api.ErrForm, full, flowOf(noForm.Base, []byte{1}, []byte{0, 3, 0}))
	is("without parts", api.ErrForm, full, flowOf(noForm.Base))
	is("of another base, and no form", api.ErrForm, full, flowOf(1, []byte{1}, []byte{0, 3, 0}))
	is("of another base, that could not be applied", api.ErrBase, full, wantBoth(t, s, rowsDelta()))
	is("that cannot be applied", api.ErrForm, full, fits(func(*api.Delta) {}))
	is("of a From twice", api.ErrForm, full, fits(func(d *api.Delta) { d.Roots, d.L = []int{0, 1}, []api.Item{item(0, 1), item(0, 1)} }))
	is("of a root that is no item", api.ErrForm, full, fits(func(d *api.Delta) { d.Roots, d.L = []int{0}, nil }))
	is("of too many roots", api.ErrForm, full, fits(func(d *api.Delta) { d.Roots, d.L = []int{-1, -1, -1, -1}, nil }))
	is("of too many objects", api.ErrForm, full, fits(func(d *api.Delta) { d.Roots, d.L = []int{0}, make([]api.Item, 39) }))
	is("of a field twice", api.ErrForm, full, fits(func(d *api.Delta) {
		d.Roots, d.L = []int{0}, []api.Item{item(1, 0, set(0, num(1)), set(0, num(1)), set(1, lead(-1)))}
	}))
	for _, whole := range [][]byte{full, step, flowOf(0), flowOf(9, nil)} {
		for e, list := range flows(whole) {
			for _, b := range list {
				is("flow's error, first", e, b)
				is("flow's error, first, and what is fine behind", e, b, full, step)
				is("flow's error, behind", e, full, b)
				is("flow's error, behind two", e, full, step, b)
				is("another base, ahead of flow's error", api.ErrBase, full, all[3], b)
				is("no form, ahead of flow's error", api.ErrForm, full, flowOf(noForm.Base), b)
				is("no graph's, ahead of flow's error", api.ErrForm, step, b)
			}
		}
	}
}

// P12.3: a delta is read by the schema of what there is.
func TestRestoreByItsSchema(t *testing.T) {
	a, b := rooted(of("a{n:i8}", obj(0, 0, num(1))), 0), rooted(of("a{o:*a}", obj(0, 0, lead(0))), 0)
	fullA, _ := code.Put(a)
	fullB, _ := code.Put(b)
	sumA, _ := code.Sum(a)
	sumB, _ := code.Sum(b)
	part := []byte{1, 0, 1, 0, 1} // -1, or a Ref to 0
	wantRestored(t, [][]byte{fullA, flowOf(sumA, []byte{1}, part)}, rooted(of("a{n:i8}", obj(0, 0, num(-1))), 0), api.OK)
	wantRestored(t, [][]byte{fullB, flowOf(sumB, []byte{1}, part)}, b, api.OK)
	part[4] = 2 // 1, or a Ref to what is not there
	wantRestored(t, [][]byte{fullA, flowOf(sumA, []byte{1}, part)}, a, api.OK)
	wantRestored(t, [][]byte{fullB, flowOf(sumB, []byte{1}, part)}, api.Graph{}, api.ErrForm)
	wantRestored(t, [][]byte{fullB, flowOf(sumA, []byte{1}, part)}, api.Graph{}, api.ErrBase)
	for i, x := range texts() {
		for k, other := range texts() {
			g, h := rooted(of(x), -1), rooted(of(other), -1)
			full, _ := code.Put(g)
			e := wantRestore(t, full, stepOf(t, h, rooted(h, -1, -1)))
			if want := map[bool]api.Errno{true: api.OK, false: api.ErrBase}[i == k]; e != want {
				t.Error(x, other, e)
			}
		}
	}
}

// P12.3: at first there is code's Get of the first flow, whatever it is of.
func TestRestoreOfOneFlow(t *testing.T) {
	next := chance(1206)
	for range 2000 {
		g := byChance(next)
		b, e := code.Put(g)
		if e != api.OK {
			t.Fatal(e)
		}
		wantRestored(t, [][]byte{b}, canon.Canon(g), api.OK)
		b[next(len(b))] ^= byte(1 << next(8))
		_, e = code.Get(b)
		wantRestored(t, [][]byte{b}, api.Graph{}, e)
	}
	long, much := api.Graph{S: sized(200), Roots: []int{-1}}, api.Graph{S: sized(201)}
	b, _ := code.Put(long)
	wantRestored(t, [][]byte{b}, long, api.OK)
	wantRestored(t, [][]byte{b, stepOf(t, long, api.Graph{S: sized(200)})}, api.Graph{S: sized(200)}, api.OK)
	b, _ = code.Put(much)
	wantRestored(t, [][]byte{b}, api.Graph{}, api.ErrOrder)
}

// grown are rows of so many graphs by chance, each of which has become of the one ahead.
func grown(next func(int) int, count int) []api.Graph {
	list := []api.Graph{byChance(next)}
	for len(list) < count {
		list = append(list, laterOf(next, list[len(list)-1]))
	}
	return list
}

// P12.4, P5: over many rows, a full flow, and what became, one behind the other, are what there is at last, as its Canon.
func TestRows(t *testing.T) {
	next, changed := chance(1207), 0
	for i := range 6000 {
		list := grown(next, 2+i%3)
		all := flowsOf(t, list...)
		for k, g := range list {
			wantRestored(t, all[:k+1], canon.Canon(g), api.OK)
		}
		wantRestore(t, all...)
		for k, b := range all[1:] {
			d, e := Get(list[0].S, b)
			made, _ := delta.Make(list[k], list[k+1])
			if e != api.OK || !delta.Same(d, made) {
				t.Fatalf("what becomes of %v, to be %v, is read as %v, %d", list[k], list[k+1], d, e)
			}
			if again, e := Put(list[0].S, d); e != api.OK || !bytes.Equal(again, b) {
				t.Fatalf("%v is read as %v, and put as %v, %d", b, d, again, e)
			}
			if !canon.Iso(list[k], list[k+1]) {
				changed++
			}
		}
	}
	if changed < 5000 {
		t.Error("too few graphs became others:", changed)
	}
}

// orders are all rows of up to so many numbers below count.
func orders(count, most int) [][]int {
	list := [][]int{nil}
	for at := 0; at < len(list); at++ {
		if len(list[at]) < most {
			for i := range count {
				list = append(list, append(slices.Clone(list[at]), i))
			}
		}
	}
	return list
}

// wantOrder has deltas in that order make what they must: each is applied to what is alike its own base, and to nothing else.
func wantOrder(t testing.TB, list []api.Graph, all [][]byte, first int, order []int) bool {
	t.Helper()
	full, _ := code.Put(list[first])
	flows, now := [][]byte{full}, list[first]
	want := api.OK
	for _, i := range order {
		flows = append(flows, all[i+1])
		if !canon.Iso(now, list[i]) {
			want = api.ErrBase
		}
		if want == api.OK {
			now = list[i+1]
		}
	}
	if want != api.OK {
		wantRestored(t, flows, api.Graph{}, want)
		return false
	}
	wantRestored(t, flows, canon.Canon(now), want)
	return true
}

// P12.4: of deltas in another order, or with one that lacks or stands twice, none is applied to another base.
func TestOtherOrders(t *testing.T) {
	next, count := chance(1208), map[bool]int{}
	rows := [][]api.Graph{row(), append(row(), row()[:3]...)}
	for i := range 250 {
		list := grown(next, 2+i%3)
		if i%5 == 0 && errorOf(delta.Make(list[len(list)-1], list[0])) == api.OK {
			list = append(list, list[0])
		}
		rows = append(rows, list)
	}
	for _, list := range rows {
		all := flowsOf(t, list...)
		for _, order := range orders(len(list)-1, min(4, len(list))) {
			for first := range min(2, len(list)) {
				count[wantOrder(t, list, all, first, order)]++
			}
		}
	}
	if count[true] < 1000 || count[false] < 5000 {
		t.Error("too few orders were tried:", count)
	}
}

// P12.4: of the row by hand just these orders are applied.
func TestOrdersByHand(t *testing.T) {
	list := row()
	all := flowsOf(t, list...)
	for _, order := range orders(3, 4) {
		for first := range list {
			want := true
			for k, i := range order {
				want = want && i == first+k
			}
			if got := wantOrder(t, list, all, first, order); got != want {
				t.Errorf("from %d on, %v: %v", first, order, got)
			}
		}
	}
	// There and back: each has the base of what there is then.
	back := append(flowsOf(t, list[0], list[1]), stepOf(t, list[1], list[0]))
	wantRestored(t, [][]byte{back[0], back[1], back[2], back[1], back[2]}, canon.Canon(list[0]), api.OK)
	wantRestored(t, [][]byte{back[0], back[1], back[2], back[1]}, canon.Canon(list[1]), api.OK)
	wantRestored(t, [][]byte{back[0], back[2]}, api.Graph{}, api.ErrBase)
	wantRestored(t, [][]byte{back[0], back[1], back[1]}, api.Graph{}, api.ErrBase)
}

// flip turns bits of b round, from bit at on, in a copy, and tells whether they are all there.
func flip(b []byte, at int, pattern uint32) ([]byte, bool) {
	b = slices.Clone(b)
	for i := range 32 {
		if pattern>>i&1 == 0 {
			continue
		}
		if at+i >= 8*len(b) {
			return nil, false
		}
		b[(at+i)/8] ^= 1 << ((at + i) % 8)
	}
	return b, true
}

// refusing are deltas' flows, of rowsText, of which others must not be read: those that are applied to the first of row, and any.
func refusing(t testing.TB) [][]byte {
	all := flowsOf(t, row()...)
	list := [][]byte{all[1], stepOf(t, row()[0], row()[3]), stepOf(t, row()[0], row()[0])}
	for _, d := range []api.Delta{{}, rowsDelta(), {Base: math.MaxUint32, Roots: []int{top, -1}, L: slices.Repeat([]api.Item{item(-1, 2)}, 5)}} {
		list = append(list, wantBoth(t, schemaOf(rowsText), d))
	}
	return list
}

// wantNone has bytes be no delta's, and none of what there is.
func wantNone(t testing.TB, full, b []byte, why string) {
	t.Helper()
	if d, e := Get(schemaOf(rowsText), b); e == api.OK || !delta.Same(d, api.Delta{}) {
		t.Fatalf("%s: %v is read as %v, %d", why, b, d, e)
	}
	if g, e := Restore([][]byte{full, b}); e == api.OK || !graph.Same(g, api.Graph{}) {
		t.Fatalf("%s: of %v is restored %v, %d", why, b, g, e)
	}
}

// P12.4: with bits turned round, in some of 32, no delta is read.
func TestOtherBits(t *testing.T) {
	var patterns []uint32
	for n := uint32(1); n < 64; n += 2 {
		patterns = append(patterns, n)
	}
	next := chance(1209)
	for range 20 {
		patterns = append(patterns, uint32(next(1<<31))<<1|1)
	}
	patterns = append(patterns, math.MaxUint32, 1<<31|1, 0xedb88321, 0xff, 0xff00ff, 0x80808081)
	full := flowsOf(t, row()...)[0]
	for _, b := range refusing(t) {
		for at := range 8 * len(b) {
			for _, p := range patterns {
				if other, all := flip(b, at, p); all {
					if d, e := Get(schemaOf(rowsText), other); e == api.OK || !delta.Same(d, api.Delta{}) {
						t.Fatalf("%v, with %x turned round from bit %d on, is read as %v, %d", b, p, at, d, e)
					}
				}
			}
			other, _ := flip(b, at, 1)
			wantNone(t, full, other, "a bit turned")
			wantGet(t, schemaOf(rowsText), other)
		}
	}
}

// P12.4: cut, with some bytes less or more, or with more behind or ahead, no delta is read.
func TestCutAndLonger(t *testing.T) {
	full := flowsOf(t, row()...)[0]
	for _, b := range refusing(t) {
		for at := range b {
			for _, cut := range [][]byte{b[:at], b[at+1:], slices.Delete(slices.Clone(b), at, at+1), slices.Insert(slices.Clone(b), at, b[at])} {
				wantNone(t, full, cut, "cut")
				wantGet(t, schemaOf(rowsText), cut)
			}
		}
		for n := range 256 {
			wantRefused(t, schemaOf(rowsText), append(slices.Clone(b), byte(n)), api.ErrForm)
		}
		cuts, _ := flow.Cuts(b)
		behind := [][]byte{make([]byte, 6), make([]byte, 10), make([]byte, 300), raw(api.Frame{Kind: 2}), raw(api.Frame{Kind: 3}), raw(api.Frame{Kind: 200, Body: []byte{1}}), b[cuts[1]:], b[:cuts[1]], full}
		for _, more := range append(behind, refusing(t)...) {
			wantNone(t, full, slices.Concat(b, more), "more behind")
			wantNone(t, full, slices.Concat(more, b), "more ahead")
		}
	}
}

// P12.4: with frames that lack, are there twice, or have moved, no delta is read.
func TestFramesElsewhere(t *testing.T) {
	full := flowsOf(t, row()...)[0]
	refused := func(list []api.Frame) {
		t.Helper()
		wantRefused(t, schemaOf(rowsText), raw(list...), api.ErrOrder)
		wantNone(t, full, raw(list...), "frames elsewhere")
	}
	for _, b := range refusing(t) {
		list, e := frame.All(b)
		if e != api.OK {
			t.Fatal(e)
		}
		for i := range list {
			refused(slices.Delete(slices.Clone(list), i, i+1))
			for k := range len(list) + 1 {
				refused(slices.Insert(slices.Clone(list), k, list[i]))
			}
			for k := range list {
				if i == k {
					continue
				}
				other := slices.Clone(list)
				other[k] = list[i]
				refused(other)
				other[i] = list[k]
				refused(other)
				moved := slices.Delete(slices.Clone(list), i, i+1)
				refused(slices.Insert(moved, k, list[i]))
			}
		}
	}
}

// P1, R1: much of everything is taken, and ends soon.
func TestLong(t *testing.T) {
	const count = 1 << 18
	s := schemaOf(rowsText)
	long := strings.Repeat("a", 1<<20)
	cells := make([]api.Cell, count)
	for d, want := range map[*api.Delta]api.Errno{
		{Roots: make([]int, count)}:                                           api.ErrLimit,
		{Roots: slices.Repeat([]int{top}, count)}:                             api.ErrLimit,
		{Roots: append(make([]int, count), -2)}:                               api.ErrArg,
		{L: make([]api.Item, count)}:                                          api.ErrLimit,
		{L: append(make([]api.Item, count), item(0, 3))}:                      api.ErrArg,
		{L: []api.Item{item(0, 0, cells...)}}:                                 api.ErrLimit,
		{L: []api.Item{item(0, 2, cells...)}}:                                 api.ErrArg,
		{L: []api.Item{item(0, 0, append(cells, set(3, num(0)))...)}}:         api.ErrArg,
		{L: []api.Item{item(0, 0, set(2, text(long)))}}:                       api.ErrArg,
		{L: slices.Repeat([]api.Item{item(0, 0, cells[:1<<10]...)}, 1<<10)}:   api.ErrLimit,
		{L: slices.Repeat([]api.Item{item(0, 0, set(2, text(long)))}, count)}: api.ErrArg,
	} {
		wantNotPut(t, s, *d, want)
	}
	for _, no := range []api.Schema{{T: slices.Repeat([]api.Type{{Name: "a"}}, count)}, {T: []api.Type{{Name: "a", F: slices.Repeat([]api.Field{{Name: "n"}}, count)}}}, {T: []api.Type{{Name: long}}}, {T: []api.Type{{Name: "a", F: []api.Field{{Name: "n", Kind: 5, To: long}}}}}} {
		wantNotPut(t, no, rowsDelta(), api.ErrArg)
		wantRefused(t, no, flowOf(300, rows()...), api.ErrArg)
	}
	example := flowOf(0, nil)
	full := flowsOf(t, row()...)[0]
	for _, b := range [][]byte{make([]byte, 1<<22), []byte(long), bytes.Repeat([]byte{255}, 1<<22), bytes.Repeat(raw(api.Frame{Kind: 2}), 1<<14), bytes.Repeat(example, 1<<12), append(example, make([]byte, 1<<22)...)} {
		wantNone(t, full, b, "much")
	}
	same := stepOf(t, row()[0], row()[0])
	wantRestored(t, append([][]byte{full}, slices.Repeat([][]byte{same}, 1<<13)...), canon.Canon(row()[0]), api.OK)
	wantRestored(t, make([][]byte, count), api.Graph{}, api.ErrOrder)
	wantRestored(t, append([][]byte{full}, make([][]byte, count)...), api.Graph{}, api.ErrOrder)
}

// R6: lists that are nil, or empty.
func TestEmptyLists(t *testing.T) {
	null, empty := schemaOf("a{}b{n:i8}"), schemaOf("a{}b{n:i8}")
	null.T[0].F, empty.T[0].F = nil, []api.Field{}
	for _, s := range []api.Schema{null, empty} {
		a := wantBoth(t, s, api.Delta{L: []api.Item{{}, {T: 1}}})
		b := wantBoth(t, s, api.Delta{Roots: []int{}, L: []api.Item{{Set: []api.Cell{}}, {T: 1, Set: []api.Cell{}}}})
		if !bytes.Equal(a, b) || !bytes.Equal(a, flowOf(0, nil, []byte{1, 0, 0}, []byte{1, 1, 0})) {
			t.Error(a, b)
		}
		wantBoth(t, s, api.Delta{Roots: []int{}, L: []api.Item{}})
		wantRefused(t, s, nil, api.ErrOrder)
		wantRefused(t, s, []byte{}, api.ErrOrder)
	}
	wantNotPut(t, api.Schema{T: []api.Type{}}, api.Delta{}, api.ErrArg)
	wantRestored(t, [][]byte{{}}, api.Graph{}, api.ErrOrder)
	wantRestored(t, [][]byte{nil}, api.Graph{}, api.ErrOrder)
}

// roomy has room behind a list, with something in it.
func roomy[T any](list []T, behind T) []T {
	return append(slices.Clone(list), behind, behind, behind)[:len(list)]
}

func roomySchema(s api.Schema) api.Schema {
	x := api.Schema{T: roomy(s.T, api.Type{Name: "z"})}
	for i := range x.T {
		x.T[i].F = roomy(x.T[i].F, api.Field{Name: "z"})
	}
	return x
}

func roomyDelta(d api.Delta) api.Delta {
	x := api.Delta{Base: d.Base, Roots: roomy(d.Roots, 99), L: roomy(d.L, item(99, 99))}
	for i := range x.L {
		x.L[i].Set = roomy(x.L[i].Set, set(99, num(99)))
	}
	return x
}

// withRoom is s, with all the room behind its lists.
func withRoom(s api.Schema) api.Schema {
	x := api.Schema{T: slices.Clone(s.T[:cap(s.T)])}
	for i := range x.T {
		x.T[i].F = x.T[i].F[:cap(x.T[i].F)]
	}
	return x
}

func withRoomOf(d api.Delta) api.Delta {
	x := api.Delta{Base: d.Base, Roots: d.Roots[:cap(d.Roots)], L: slices.Clone(d.L[:cap(d.L)])}
	for i := range x.L {
		x.L[i].Set = x.L[i].Set[:cap(x.L[i].Set)]
	}
	return x
}

// spoil writes over all of a schema, and the room behind it.
func spoil(s api.Schema) {
	for _, t := range s.T[:cap(s.T)] {
		fill(t.F, api.Field{Name: "spoilt", Kind: 77})
	}
	fill(s.T, api.Type{Name: "spoilt"})
}

func spoilGraph(g api.Graph) {
	spoil(g.S)
	for _, o := range g.O[:cap(g.O)] {
		fill(o.F, api.Val{N: 77, S: "spoilt", R: 77})
	}
	fill(g.O, obj(77, 77))
	fill(g.Roots, 77)
}

func spoilDelta(d api.Delta) {
	for _, x := range d.L[:cap(d.L)] {
		fill(x.Set, set(77, api.Val{N: 77, S: "spoilt", R: 77}))
	}
	fill(d.L, item(77, 77))
	fill(d.Roots, 77)
}

func fill[T any](list []T, x T) {
	list = list[:cap(list)]
	for i := range list {
		list[i] = x
	}
}

// R3: what is handed in to Put stays as it was, also behind its lists' ends, and changes of it change no answer.
func TestHandedInStays(t *testing.T) {
	next := chance(1210)
	for i := range 1500 {
		of := schemaOf(texts()[next(len(texts()))])
		if i%50 == 0 {
			of = noSchemas()[i/50%len(noSchemas())]
		}
		was := api.Delta{}
		if len(of.T) > 0 && schema.May(of) {
			was = deltaByChance(next, of)
		}
		if i%3 == 0 {
			spot(next, &was)
		}
		s, d := roomySchema(of), roomyDelta(was)
		wasS, wasD := cloneSchema(withRoom(s)), copyOf(withRoomOf(d))
		b, e := Put(s, d)
		if !schema.Same(withRoom(s), wasS) || !delta.Same(withRoomOf(d), wasD) {
			t.Fatalf("%v and %v became %v and %v", of, was, s, d)
		}
		spoil(s)
		spoilDelta(d)
		if want, wantE := putOf(of, was); e != wantE || !bytes.Equal(b, want) {
			t.Fatalf("Put of %v and %v changes with them: %v, %d", of, was, b, e)
		}
		wantPut(t, of, was)
	}
}

// R3: likewise of Get, and of Restore.
func TestHandedInBytesStay(t *testing.T) {
	all := flowsOf(t, row()...)
	behind := []byte{9, 9, 9, 9}
	for _, b := range append(refusing(t), all[0], all[1][:30], instead(3, 0), []byte{1, 2}, nil) {
		s, room := roomySchema(schemaOf(rowsText)), append(slices.Clone(b), behind...)
		wasS := cloneSchema(withRoom(s))
		want, wantE := getOf(s, b)
		d, e := Get(s, room[:len(b)])
		if !bytes.Equal(room, append(slices.Clone(b), behind...)) || !schema.Same(withRoom(s), wasS) {
			t.Fatalf("%v and %v became %v and %v", wasS, b, s, room)
		}
		clear(room)
		spoil(s)
		if e != wantE || !delta.Same(d, want) {
			t.Fatalf("Get of %v changes with it: %v, %d", b, d, e)
		}
		made, madeE := restoreOf([][]byte{all[0], b})
		first, second := append(slices.Clone(all[0]), behind...), append(slices.Clone(b), behind...)
		list := [][]byte{first[:len(all[0])], second[:len(b)], {7}}
		g, e := Restore(list[:2])
		if !bytes.Equal(first, append(slices.Clone(all[0]), behind...)) || !bytes.Equal(second, append(slices.Clone(b), behind...)) || !bytes.Equal(list[0], all[0]) || !bytes.Equal(list[1], b) || !bytes.Equal(list[2], []byte{7}) {
			t.Fatalf("%v, %v became %v", all[0], b, list)
		}
		clear(first)
		clear(second)
		clear(list)
		if e != madeE || !graph.Same(g, made) {
			t.Fatalf("Restore of %v changes with it: %v, %d", b, g, e)
		}
	}
}

// R3: what is answered is the caller's own, and no two lists of one answer share memory.
func TestAnswersAreOnesOwn(t *testing.T) {
	next := chance(1211)
	for range 1500 {
		s := schemaOf(texts()[next(len(texts()))])
		d := deltaByChance(next, s)
		was := copyOf(d)
		b, _ := Put(s, d)
		again, _ := Put(s, d)
		kept := slices.Clone(b)
		got, _ := Get(s, b)
		other, _ := Get(s, b)
		fill(again, 77)
		spoilDelta(got)
		if !bytes.Equal(b, kept) || !delta.Same(d, was) || !delta.Same(other, d) {
			t.Fatalf("an answer of %v and %v shares memory", s, was)
		}
		fill(other.Roots, 77)
		other.Roots = d.Roots
		for i := range other.L {
			fill(other.L[i].Set, set(77, num(77)))
			other.L[i].Set = d.L[i].Set
			if !delta.Same(other, d) {
				t.Fatalf("two lists of Get of %v share memory", b)
			}
		}
		wantRead(t, s, b, d, api.OK)
	}
	for i := range 300 {
		list := grown(next, 1+i%3)
		all, want := flowsOf(t, list...), canon.Canon(list[len(list)-1])
		g, _ := Restore(all)
		other, _ := Restore(all)
		spoilGraph(g)
		if !graph.Same(other, want) {
			t.Fatalf("Restore of %v shares memory with another one", all)
		}
		for k := range other.O {
			fill(other.O[k].F, num(77))
			other.O[k].F = want.O[k].F
			if !graph.Same(other, want) {
				t.Fatalf("two lists of Restore of %v share memory", all)
			}
		}
		for k := range other.S.T {
			fill(other.S.T[k].F, api.Field{Name: "spoilt"})
			other.S.T[k].F = want.S.T[k].F
			if !graph.Same(other, want) {
				t.Fatalf("two lists of Restore of %v share memory", all)
			}
		}
		wantRestored(t, all, want, api.OK)
	}
}

// R3: also if lists of one that was handed in share memory.
func TestListsThatWereShared(t *testing.T) {
	one := []api.Cell{set(0, num(7)), set(2, text("a"))}
	b := wantBoth(t, schemaOf(rowsText), api.Delta{Roots: []int{0}, L: []api.Item{item(0, 0, one...), item(1, 0, one...), item(1, 0, one[:1]...)}})
	if !bytes.Equal(b, flowOf(0, []byte{1}, []byte{1, 0, 2, 0, 14, 2, 1, 'a'}, []byte{2, 0, 2, 0, 14, 2, 1, 'a'}, []byte{2, 0, 1, 0, 14})) || one[1].V.S != "a" {
		t.Fatal(b, one)
	}
	all := flowsOf(t, row()[0], row()[0])
	wantRestored(t, [][]byte{all[0], all[1], all[1], all[1]}, canon.Canon(row()[0]), api.OK)
}

// borrowed is a text that lies in bytes that can still be changed.
func borrowed(s string) (string, []byte) {
	b := []byte(s + " ")
	return unsafe.String(&b[0], len(s)), b
}

// R3: nothing of a text that was handed in is kept.
func TestTextsAreNotKept(t *testing.T) {
	s, d := schemaOf(richText), good()
	want, _ := putOf(s, d)
	var all [][]byte
	lend := func(s *string) {
		lent, b := borrowed(*s)
		*s, all = lent, append(all, b)
	}
	for i := range s.T {
		lend(&s.T[i].Name)
		for k := range s.T[i].F {
			lend(&s.T[i].F[k].Name)
			lend(&s.T[i].F[k].To)
		}
	}
	for _, x := range d.L {
		for k := range x.Set {
			lend(&x.Set[k].V.S)
		}
	}
	put, e := Put(s, d)
	got, e2 := Get(s, want)
	for _, b := range all {
		fill(b, '?')
	}
	if e != api.OK || !bytes.Equal(put, want) {
		t.Fatal("Put keeps a text:", put, e)
	}
	if e2 != api.OK || !delta.Same(got, good()) {
		t.Fatal("Get keeps a text:", got, e2)
	}
	clear(want)
	if !delta.Same(got, good()) {
		t.Fatal("Get keeps its bytes:", got)
	}
}

// R5: what is answered does not hang on what was asked before.
func TestAskedAgain(t *testing.T) {
	s, list := schemaOf(rowsText), others()
	all := flowsOf(t, row()...)
	raws := append(refusing(t), instead(3, 0), instead(0), []byte{1, 2}, nil, flowOf(0))
	for i, d := range list {
		for range 2 {
			wantBoth(t, s, d)
			wantNotPut(t, api.Schema{}, d, api.ErrArg)
			wantGet(t, s, raws[i%len(raws)])
			wantGet(t, schemaOf(texts()[i%len(texts())]), raws[i%len(raws)])
			wantRestored(t, all[:1+i%4], canon.Canon(row()[i%4]), api.OK)
			wantRestore(t, all[0], raws[i%len(raws)])
		}
	}
}

func FuzzWired(f *testing.F) {
	for seed := range uint64(20) {
		f.Add(seed, flowOf(300, rows()...), []byte{byte(seed), 0}, int(seed)-2, 0, 0, 1)
	}
	f.Add(uint64(7), []byte{1}, ff(9, 1), top, 4, 5, -1)
	f.Fuzz(func(t *testing.T, seed uint64, b, part []byte, from, kind, field, number int) {
		next := chance(seed)
		list := grown(next, 3)
		s, all := list[0].S, flowsOf(t, list...)
		wantRestored(t, all, canon.Canon(list[2]), api.OK)
		wantGet(t, s, b)
		wantRestore(t, b)
		wantRestore(t, all[0], b)
		d := deltaByChance(next, s)
		wantBoth(t, s, d)
		wantPut(t, s, but(d, func(d *api.Delta) { d.Roots = append(d.Roots, number) }))
		wantPut(t, s, but(d, func(d *api.Delta) { d.L = append(d.L, item(from, kind)) }))
		for i := range d.L {
			for _, v := range []api.Val{num(number), lead(number), text(string(part))} {
				wantPut(t, s, but(d, func(d *api.Delta) { d.L[i].Set = append(d.L[i].Set, set(field, v)) }))
			}
		}
		if len(part) > 200 {
			return
		}
		parts := partsSaid(s, d)
		for i := range parts {
			other := slices.Clone(parts)
			other[i] = part
			wantGet(t, s, flowOf(d.Base, other...))
		}
		sum, _ := code.Sum(list[0])
		wantRestore(t, all[0], flowOf(sum, append(parts, part)...))
	})
}
