package code

import (
	"bytes"
	"encoding/binary"
	"hash/crc32"
	"math"
	"slices"
	"strings"
	"testing"
	"unsafe"

	"foliate/api"
	"foliate/canon"
	"foliate/flow"
	"foliate/frame"
	"foliate/graph"
	"foliate/schema"
)

const top = 1073741824 // 2^30

func num(n int) api.Val     { return api.Val{N: n} }
func text(s string) api.Val { return api.Val{S: s} }
func lead(r int) api.Val    { return api.Val{R: r} }

func obj(id, t int, list ...api.Val) api.Obj { return api.Obj{Id: id, T: t, F: list} }

func schemaOf(s string) api.Schema {
	x, ok := schema.Read(s)
	if !ok {
		panic(s)
	}
	return x
}

// of is a graph of a schema's text, without roots.
func of(s string, list ...api.Obj) api.Graph { return api.Graph{S: schemaOf(s), O: list} }

// rooted is g with other roots.
func rooted(g api.Graph, ids ...int) api.Graph {
	g.Roots = ids
	return g
}

const ringsText = "a{o:*a,n:i64,s:t,p:*a}"

// pair is an object of ringsText, of a number that tells which one it was.
func pair(n, id, o, p int) api.Obj { return obj(id, 0, lead(o), num(n), text(""), lead(p)) }

// row are eight objects, each of which leads to the one ahead of it, and the first one to none.
func row() api.Graph {
	g := of(ringsText, pair(0, 0, -1, -1))
	for i := 1; i < 8; i++ {
		g.O = append(g.O, pair(i, 10*i, -1, 10*i-10))
	}
	return g
}

// rich is a graph of four types, all kinds, and objects of each type; one of them is not met.
func rich() api.Graph {
	g := of("a{n:i8,o:*b,s:t}b{o:*a,p:*b}c{}d{h:i16,w:i32,l:i64,a:*a,c:*c}",
		obj(0, 0, num(-128), lead(3), text("")),
		obj(2, 2),
		obj(3, 1, lead(0), lead(3)),
		obj(7, 0, num(127), lead(-1), text("123456789012")),
		obj(8, 3, num(-32768), num(2147483647), num(math.MinInt64), lead(7), lead(2)),
		obj(top, 1, lead(7), lead(3)),
	)
	return rooted(g, 8, -1, 3)
}

// clone shares nothing with a graph but its texts.
func clone(g api.Graph) api.Graph {
	x := api.Graph{S: api.Schema{T: slices.Clone(g.S.T)}, O: slices.Clone(g.O), Roots: slices.Clone(g.Roots)}
	for i := range x.S.T {
		x.S.T[i].F = slices.Clone(x.S.T[i].F)
	}
	for i := range x.O {
		x.O[i].F = slices.Clone(x.O[i].F)
	}
	return x
}

// with is a copy of g, changed.
func with(g api.Graph, change func(*api.Graph)) api.Graph {
	x := clone(g)
	change(&x)
	return x
}

// sized is a schema whose text has so many bytes, from 88 to 228.
func sized(size int) api.Schema {
	s := schemaOf("a{a:t,b:t,c:t,d:t,e:t}b{a:t,b:t,c:t,d:t,e:t}c{a:t,b:t,c:t,d:t,e:t}d{a:t,b:t,c:t,d:t,e:t}")
	more := size - len(schema.Text(s))
	for _, t := range s.T {
		for k := range t.F {
			n := min(more, 7)
			t.F[k].Name += strings.Repeat("1", n)
			more -= n
		}
	}
	if got := len(schema.Text(s)); got != size {
		panic(got)
	}
	return s
}

// widest is a schema of the longest text that there is: names of eight signs, each of two bytes, and Refs alone.
func widest() api.Schema {
	var s api.Schema
	for i := range 4 {
		t := api.Type{Name: "äääääää" + string(rune('à'+i))}
		for k := range 5 {
			t.F = append(t.F, api.Field{Name: "öööööö" + string(rune('à'+i)) + string(rune('à'+k)), Kind: 5, To: "äääääääà"})
		}
		s.T = append(s.T, t)
	}
	return s
}

// partsOfGraph are P10.1's parts, word by word, with the library's numbers. The graph may be.
func partsOfGraph(g api.Graph) [][]byte {
	c := canon.Canon(g)
	roots := []byte{}
	for _, id := range c.Roots {
		roots = binary.AppendUvarint(roots, uint64(id+1))
	}
	parts := [][]byte{[]byte(schema.Text(c.S)), roots}
	for _, o := range c.O {
		part := binary.AppendUvarint(nil, uint64(o.T))
		for k, f := range c.S.T[o.T].F {
			switch v := o.F[k]; f.Kind {
			case 4:
				part = append(binary.AppendUvarint(part, uint64(len(v.S))), v.S...)
			case 5:
				part = binary.AppendUvarint(part, uint64(v.R+1))
			default:
				part = binary.AppendVarint(part, int64(v.N))
			}
		}
		parts = append(parts, part)
	}
	return parts
}

// flowOf are the bytes of a full flow of these parts, which may be.
func flowOf(parts ...[]byte) []byte {
	b, e := flow.Put(api.Flow{Parts: parts})
	if e != api.OK {
		panic(e)
	}
	return b
}

// putOf is P10.1's Put, word by word.
func putOf(g api.Graph) ([]byte, api.Errno) {
	if !graph.May(g) {
		return nil, 1
	}
	parts := partsOfGraph(g)
	for _, p := range parts {
		if len(p) > 200 {
			return nil, 5
		}
	}
	return flowOf(parts...), 0
}

// sumOf is P10.2's Sum, word by word, with the library's sum.
func sumOf(g api.Graph) (uint32, api.Errno) {
	if _, e := putOf(g); e != 0 {
		return 0, e
	}
	var b []byte
	for _, p := range partsOfGraph(g) {
		b = append(binary.AppendUvarint(b, uint64(len(p))), p...)
	}
	return crc32.ChecksumIEEE(b), 0
}

// getOf is P10.2's Get, word by word: the one graph that could be is guessed, and put again.
func getOf(b []byte) (api.Graph, api.Errno) {
	f, e := flow.Get(b)
	if e != 0 {
		return api.Graph{}, e
	}
	g := guess(f.Parts)
	if graph.May(g) && graph.Same(canon.Canon(g), g) {
		if again, e := putOf(g); e == 0 && bytes.Equal(again, b) {
			return g, 0
		}
	}
	return api.Graph{}, 2
}

// guess is a graph that is put as these parts, if there is one; else any graph.
func guess(parts [][]byte) api.Graph {
	var g api.Graph
	if len(parts) < 2 {
		return g
	}
	g.S, _ = schema.Read(string(parts[0]))
	for at := bytes.NewReader(parts[1]); at.Len() > 0; {
		n, _ := binary.ReadUvarint(at)
		g.Roots = append(g.Roots, int(n-1))
	}
	for id, p := range parts[2:] {
		at := bytes.NewReader(p)
		t, _ := binary.ReadUvarint(at)
		o := api.Obj{Id: id, T: int(t)}
		if t < uint64(len(g.S.T)) {
			for _, f := range g.S.T[t].F {
				o.F = append(o.F, guessValue(f, at))
			}
		}
		g.O = append(g.O, o)
	}
	return g
}

func guessValue(f api.Field, at *bytes.Reader) api.Val {
	switch f.Kind {
	case 4:
		n, _ := binary.ReadUvarint(at)
		b := make([]byte, min(n, 255))
		size, _ := at.Read(b)
		return text(string(b[:size]))
	case 5:
		n, _ := binary.ReadUvarint(at)
		return lead(int(n - 1))
	}
	n, _ := binary.ReadVarint(at)
	return num(int(n))
}

// chance hands on numbers that look like chance, the same ones each time.
func chance(seed uint64) func(below int) int {
	return func(below int) int {
		seed = seed*6364136223846793005 + 1442695040888963407
		return int(seed >> 33 % uint64(below))
	}
}

// byChance is a graph that may be, of up to eight objects.
func byChance(next func(int) int) api.Graph {
	texts := []string{"a{n:i8,o:*b}b{o:*a}", ringsText, "a{n:i8,o:*b,s:t}b{o:*a,p:*b}c{}d{h:i16,w:i32,l:i64,a:*a,c:*c}", "a{}", "a{o:*b,p:*b,q:*b,r:*c,s:*d}b{o:*a}c{o:*c}d{}", "ä1{s:t}b{ß:*ä1}"}
	g := of(texts[next(len(texts))])
	id := next(3)
	for range next(9) {
		g.O = append(g.O, obj(id, next(len(g.S.T))))
		id += 1 + next(2)*next(4)
	}
	for i := range g.O {
		for _, f := range g.S.T[g.O[i].T].F {
			g.O[i].F = append(g.O[i].F, valueByChance(next, g, f))
		}
	}
	for range next(4) {
		id := -1
		if len(g.O) > 0 && next(5) > 0 {
			id = g.O[next(len(g.O))].Id
		}
		g.Roots = append(g.Roots, id)
	}
	return g
}

// valueByChance is one that g may have there.
func valueByChance(next func(int) int, g api.Graph, f api.Field) api.Val {
	switch f.Kind {
	case 4:
		return text("1\x00ä\xff6789012"[:next(2)*next(13)])
	case 5:
		ids := []int{-1}
		for _, o := range g.O {
			if g.S.T[o.T].Name == f.To {
				ids = append(ids, o.Id)
			}
		}
		return lead(ids[next(len(ids))])
	}
	bits := []int{7, 15, 31, 63}[f.Kind]
	most := 1<<bits - 1
	return num([]int{0, 1, -1, 63, -65, most, -most - 1, next(1<<31) >> (31 - min(bits, 31))}[next(8)])
}

// byOtherIds is a graph that is like g: by other Ids, and in another order.
func byOtherIds(next func(int) int, g api.Graph) api.Graph {
	ids := make([]int, len(g.O))
	id := next(3)
	for i := range ids {
		ids[i] = id
		id += 1 + next(2)*next(1<<20)
	}
	for i := range ids {
		k := i + next(len(ids)-i)
		ids[i], ids[k] = ids[k], ids[i]
	}
	to := map[int]int{-1: -1}
	for i, o := range g.O {
		to[o.Id] = ids[i]
	}
	x := clone(g)
	for i := range x.O {
		x.O[i].Id = ids[i]
		for k, f := range x.S.T[x.O[i].T].F {
			if f.Kind == 5 {
				x.O[i].F[k].R = to[x.O[i].F[k].R]
			}
		}
	}
	for i, id := range x.Roots {
		x.Roots[i] = to[id]
	}
	slices.SortFunc(x.O, func(a, b api.Obj) int { return a.Id - b.Id })
	return x
}

// good are graphs that may be, and have bytes.
func good() []api.Graph {
	ab := "a{n:i8,o:*b}b{o:*a}"
	return []api.Graph{
		of("a{}"), of(ab), of(ringsText), row(), rich(), rooted(of("a{}", obj(0, 0), obj(1, 0)), 1, 0),
		rooted(of("a{}"), -1), rooted(of(ab), -1, -1, -1), {S: rich().S},
		of(ab, obj(0, 0, num(1), lead(-1))), rooted(of(ab, obj(0, 1, lead(-1)), obj(top, 1, lead(-1))), top, 0),
		rooted(of(ab, obj(4, 0, num(0), lead(9)), obj(9, 1, lead(4))), 9, 4, 9),
		rooted(of(ringsText, pair(1, 5, 5, 5)), 5, 5, 5), rooted(of(ringsText, pair(1, 5, 5, -1)), -1, 5),
		rooted(row(), 70), rooted(row(), 0, 70, -1), rooted(row(), 30, -1, 50), {S: sized(200), Roots: []int{-1}},
	}
}

// bad are graphs that may not be.
func bad() []api.Graph {
	ab := "a{n:i8,o:*b}b{o:*a}"
	return []api.Graph{
		{}, {O: []api.Obj{obj(0, 0)}, Roots: []int{0}}, {Roots: []int{-1}}, {Roots: []int{0}},
		{S: api.Schema{T: []api.Type{{Name: "1"}}}}, {S: api.Schema{T: []api.Type{{Name: "a"}, {Name: "a"}}}},
		{S: api.Schema{T: []api.Type{{Name: "a", F: []api.Field{{Name: "o", Kind: 5, To: "b"}}}}}},
		{S: api.Schema{T: []api.Type{{Name: "a", F: []api.Field{{Name: "n", Kind: 6}}}}}},
		rooted(with(row(), func(g *api.Graph) { g.O = append(g.O, pair(8, 80, -1, -1)) }), 0), // nine objects
		rooted(of(ab, obj(-1, 1, lead(-1))), -1), rooted(of(ab, obj(top+1, 1, lead(-1))), top+1), rooted(of(ab, obj(math.MaxInt, 1, lead(-1))), math.MaxInt),
		rooted(of(ab, obj(0, 1, lead(-1)), obj(0, 1, lead(-1))), 0), rooted(of(ab, obj(1, 1, lead(-1)), obj(0, 1, lead(-1))), 0),
		rooted(of(ab, obj(0, -1, lead(-1))), 0), rooted(of(ab, obj(0, 2, lead(-1))), 0), rooted(of(ab, obj(0, math.MinInt)), 0), rooted(of(ab, obj(0, math.MaxInt)), 0),
		rooted(of(ab, obj(0, 1)), 0), rooted(of(ab, obj(0, 1, lead(-1), lead(-1))), 0), rooted(of(ab, obj(0, 0)), 0),
		rooted(of(ab, obj(0, 0, num(128), lead(-1))), 0), rooted(of(ab, obj(0, 0, lead(-1), num(0))), 0), rooted(of(ab, obj(0, 0, api.Val{R: -1}, lead(-1))), 0),
		rooted(of(ab, obj(0, 1, lead(-2))), 0), rooted(of(ab, obj(0, 1, lead(0))), 0), rooted(of(ab, obj(0, 1, lead(1))), 0), rooted(of(ab, obj(0, 1, lead(math.MinInt))), 0),
		rooted(of("a{s:t}", obj(0, 0, text("1234567890123"))), 0),
		of(ab, obj(0, 1, lead(7))), // what is not met may not be, either
		rooted(of(ab), 0), rooted(of(ab), -2), rooted(of(ab), -1, -1, -1, -1), rooted(of(ab), -1, 0), rooted(of(ab), math.MinInt), rooted(of(ab), math.MaxInt),
		rooted(row(), 0, 10, 20, 30), rooted(row(), 1), rooted(row(), 0, 10, -2),
		{S: widest(), Roots: []int{0}}, {S: sized(201), O: []api.Obj{obj(0, 4)}}, // neither would have bytes, if it might be
	}
}

// much are graphs that may be, but of a schema whose text is too long.
func much() []api.Graph {
	long := api.Graph{S: sized(201)}
	held := obj(3, 2, text("a"), text(""), text("123456789012"), text("b"), text("c"))
	return []api.Graph{long, rooted(long, -1), rooted(api.Graph{S: long.S, O: []api.Obj{held}}, 3), {S: sized(202)}, {S: sized(228)}, {S: widest()}}
}

// near are graphs of which no two are alike: each differs from the first one in one part that is met.
func near() []api.Graph {
	first := rooted(of(ringsText, pair(1, 1, 2, 3), pair(2, 2, 2, -1), pair(3, 3, -1, 1)), 1, -1, 3)
	list := []api.Graph{first}
	for _, change := range []func(*api.Graph){
		func(g *api.Graph) { g.O[0].F[1].N++ }, func(g *api.Graph) { g.O[1].F[1].N = -2 }, func(g *api.Graph) { g.O[2].F[1].N += 1 << 40 },
		func(g *api.Graph) { g.O[0].F[2].S = "a" }, func(g *api.Graph) { g.O[1].F[2].S = "A" }, func(g *api.Graph) { g.O[2].F[2].S = "\x00" },
		func(g *api.Graph) { g.O[0].F[0].R = 1 }, func(g *api.Graph) { g.O[0].F[3].R = 2 }, func(g *api.Graph) { g.O[0].F[3].R = -1 }, func(g *api.Graph) { g.O[0].F[0].R, g.O[0].F[3].R = 3, 2 },
		func(g *api.Graph) { g.O[1].F[0].R = 3 }, func(g *api.Graph) { g.O[1].F[0].R = -1 }, func(g *api.Graph) { g.O[1].F[3].R = 2 }, func(g *api.Graph) { g.O[2].F[3].R = -1 },
		func(g *api.Graph) { g.Roots[0] = -1 }, func(g *api.Graph) { g.Roots[0] = 3 }, func(g *api.Graph) { g.Roots[1] = 1 }, func(g *api.Graph) { g.Roots[1] = 2 }, func(g *api.Graph) { g.Roots[2] = -1 }, func(g *api.Graph) { g.Roots[2] = 2 },
		func(g *api.Graph) { g.Roots = g.Roots[:2] }, func(g *api.Graph) { g.Roots = g.Roots[:1] }, func(g *api.Graph) { g.Roots = nil }, func(g *api.Graph) { g.Roots = []int{-1, 1, 3} }, func(g *api.Graph) { g.Roots = []int{3, -1, 1} }, func(g *api.Graph) { g.Roots = []int{1, 3, -1} },
		func(g *api.Graph) { g.S.T[0].Name, g.S.T[0].F[0].To, g.S.T[0].F[3].To = "b", "b", "b" },
		func(g *api.Graph) { g.S.T[0].F[0].Name = "q" }, func(g *api.Graph) { g.S.T[0].F[1].Kind = 2 }, func(g *api.Graph) { g.S.T[0].F[1].Kind = 0 },
		func(g *api.Graph) { g.S.T = append(g.S.T, api.Type{Name: "b"}) }, func(g *api.Graph) { g.S.T = append(g.S.T, api.Type{Name: "c"}) },
	} {
		list = append(list, with(first, change))
	}
	return list
}

func haveBytes() []api.Graph  { return slices.Concat(good(), near()) }
func someGraphs() []api.Graph { return slices.Concat(haveBytes(), bad(), much()) }

// wantPut holds Put and Sum against the words, and answers the bytes.
func wantPut(t testing.TB, g api.Graph) ([]byte, api.Errno) {
	t.Helper()
	b, e := Put(g)
	if want, wantE := putOf(g); e != wantE || !bytes.Equal(b, want) {
		t.Fatalf("Put of %v is %v, %d, not %v, %d", g, b, e, want, wantE)
	}
	sum, e2 := Sum(g)
	if want, wantE := sumOf(g); sum != want || e2 != wantE || e2 != e {
		t.Fatalf("Sum of %v is %d, %d, not %d, %d", g, sum, e2, want, wantE)
	}
	return b, e
}

// wantGet holds Get against the words, and tells whether there is a graph.
func wantGet(t testing.TB, b []byte) bool {
	t.Helper()
	want, wantE := getOf(b)
	wantRead(t, b, want, wantE)
	return wantE == 0
}

func wantRead(t testing.TB, b []byte, want api.Graph, wantE api.Errno) {
	t.Helper()
	if g, e := Get(b); e != wantE || !graph.Same(g, want) {
		t.Fatalf("Get of %v is %v, %d, not %v, %d", b, g, e, want, wantE)
	}
}

func wantRefused(t testing.TB, b []byte, want api.Errno) {
	t.Helper()
	wantRead(t, b, api.Graph{}, want)
}

// The chapter's example, byte by byte.
func TestExample(t *testing.T) {
	g := of("a{}")
	want := []byte{
		1, 3, 182, 204, 66, 210, 1, 0, 2, 184, 250, 237, 39,
		2, 4, 0, 0, 0, 0, 0, 'a', '{', '}', 0, 0, 0, 0,
		2, 1, 0, 0, 0, 0, 1, 0, 0, 0, 0,
		3, 1, 0, 0, 0, 0, 2, 0, 0, 0, 0,
	}
	// Where the bytes of sums stand: ahead of a body, and behind it.
	for _, at := range [][3]int{{0, 2, 6}, {6, 9, 13}, {13, 15, 19}, {19, 23, 27}, {27, 29, 33}, {33, 34, 38}, {38, 40, 44}, {44, 45, 49}} {
		binary.LittleEndian.PutUint32(want[at[1]:at[2]], crc32.ChecksumIEEE(want[at[0]:at[1]]))
	}
	b, e := wantPut(t, g)
	if e != api.OK || len(b) != 49 || !bytes.Equal(b, want) {
		t.Errorf("%v, %d", b, e)
	}
	wantRead(t, want, g, api.OK)
	if sum, e := Sum(g); sum != crc32.ChecksumIEEE([]byte{3, 'a', '{', '}', 0}) || e != api.OK {
		t.Error(sum, e)
	}
}

// P10.1, and P10.2's Sum, by hand.
func TestPut(t *testing.T) {
	kinds := "a{a:i8,b:i16,c:i32,d:i64,e:t}b{o:*b}"
	ff := func(n int, last ...byte) []byte { return append(bytes.Repeat([]byte{255}, n), last...) }
	b := func(list ...byte) []byte { return list }
	for _, x := range []struct {
		name string
		g    api.Graph
		want [][]byte // behind the schema's text
	}{
		{"neither objects nor roots", of("a{}"), [][]byte{{}}},
		{"no objects", rooted(of("a{}"), -1), [][]byte{{0}}}, {"no objects, and most roots", rooted(of(kinds), -1, -1, -1), [][]byte{{0, 0, 0}}},
		{"no roots", row(), [][]byte{{}}}, {"roots of -1 alone", rooted(row(), -1, -1), [][]byte{{0, 0}}},
		{"a root of -1 ahead, between, behind", rooted(of("a{}", obj(7, 0)), -1, 7, -1), [][]byte{{0, 1, 0}, {0}}},
		{"types without fields", rooted(of("a{}b{}c{}d{}", obj(1, 3), obj(2, 0), obj(3, 2), obj(4, 1)), 3, 1, 4), [][]byte{{1, 2, 3}, {2}, {3}, {1}}},
		{"one root thrice", rooted(of("a{}", obj(7, 0)), 7, 7, 7), [][]byte{{1, 1, 1}, {0}}},
		{"Ids that are not their places", rooted(of("a{o:*a}", obj(2, 0, lead(-1)), obj(5, 0, lead(2))), 5), [][]byte{{1}, {0, 2}, {0, 0}}},
		{"the greatest Id", rooted(of("a{o:*a}", obj(top, 0, lead(top))), top), [][]byte{{1}, {0, 1}}},
		{"objects that are not met", rooted(of("a{n:i8,o:*a}", obj(0, 0, num(9), lead(1)), obj(1, 0, num(1), lead(-1)), obj(2, 0, num(9), lead(0))), 1), [][]byte{{1}, {0, 2, 0}}},
		{"least values", rooted(of(kinds, obj(0, 0, num(-128), num(-32768), num(-2147483648), num(math.MinInt64), text("")), obj(1, 1, lead(-1))), 0, 1),
			[][]byte{{1, 2}, slices.Concat(b(0), ff(1, 1), ff(2, 3), ff(4, 15), ff(9, 1), b(0)), {1, 0}}},
		{"greatest values", rooted(of(kinds, obj(0, 0, num(127), num(32767), num(2147483647), num(math.MaxInt64), text("123456789012")), obj(top, 1, lead(top))), 0, top),
			[][]byte{{1, 2}, slices.Concat(b(0), b(254, 1), b(254, 255, 3), b(254, 255, 255, 255, 15), b(254), ff(8, 1), b(12), []byte("123456789012")), {1, 2}}},
		{"values between", rooted(of(kinds, obj(0, 0, num(-1), num(1), num(-2), num(64), text("\xff\x00"))), 0), [][]byte{{1}, {0, 1, 2, 3, 128, 1, 2, 255, 0}}},
		{"all 8 objects", rooted(row(), 70), [][]byte{{1}, {0, 0, 14, 0, 2}, {0, 0, 12, 0, 3}, {0, 0, 10, 0, 4}, {0, 0, 8, 0, 5}, {0, 0, 6, 0, 6}, {0, 0, 4, 0, 7}, {0, 0, 2, 0, 8}, {0, 0, 0, 0, 0}}},
		{"a ring", rooted(of(ringsText, pair(3, 3, 9, 3), pair(-4, 9, -1, 3)), 9), [][]byte{{1}, {0, 0, 7, 0, 2}, {0, 1, 6, 0, 2}}},
	} {
		parts := append([][]byte{[]byte(schema.Text(x.g.S))}, x.want...)
		got, e := wantPut(t, x.g)
		if f, wrong := flow.Get(got); e != api.OK || wrong != api.OK || !flow.Same(f, api.Flow{Parts: parts}) {
			t.Errorf("%s: Put of %v is of %v, %d, not of %v", x.name, x.g, f, e, parts)
		}
		var all []byte
		for _, p := range parts {
			all = append(append(all, byte(len(p))), p...) // none has 128 bytes here
		}
		if sum, e := Sum(x.g); sum != crc32.ChecksumIEEE(all) || e != api.OK {
			t.Errorf("%s: Sum of %v is %d, %d", x.name, x.g, sum, e)
		}
		wantRead(t, flowOf(parts...), canon.Canon(x.g), api.OK)
	}
}

// P10.1, P10.2, R2, R4: ErrArg, at first, and nothing beside an error.
func TestOfWhatMayNotBe(t *testing.T) {
	for _, g := range bad() {
		if b, e := wantPut(t, g); e != api.ErrArg || len(b) != 0 {
			t.Errorf("Put of %v is %v, %d", g, b, e)
		}
		if sum, e := Sum(g); e != api.ErrArg || sum != 0 {
			t.Errorf("Sum of %v is %d, %d", g, sum, e)
		}
	}
}

// P10.1, P10.2: a schema's text of up to 200 bytes, and of more.
func TestLimit(t *testing.T) {
	for size := 88; size <= 228; size++ {
		want := api.OK
		if size > 200 {
			want = api.ErrLimit
		}
		held := obj(3, 2, text("a"), text(""), text("123456789012"), text("b"), text("c"))
		for _, g := range []api.Graph{{S: sized(size)}, {S: sized(size), O: []api.Obj{held}}, {S: sized(size), O: []api.Obj{held}, Roots: []int{3}}} {
			if _, e := wantPut(t, g); e != want {
				t.Errorf("Put of a schema's text of %d bytes: %d", size, e)
			}
			g.Roots = []int{0} // that of no object, or of none of this Id
			if _, e := wantPut(t, g); e != api.ErrArg {
				t.Errorf("Put of a graph that may not be, of a schema's text of %d bytes: %d", size, e)
			}
		}
	}
	for _, g := range much() {
		if b, e := wantPut(t, g); e != api.ErrLimit || len(b) != 0 {
			t.Errorf("Put of %v is %v, %d", g, b, e)
		}
		if sum, e := Sum(g); e != api.ErrLimit || sum != 0 {
			t.Errorf("Sum of %v is %d, %d", g, sum, e)
		}
	}
}

// P10.1: bytes are counted, not signs.
func TestLimitOfSignsOfTwoBytes(t *testing.T) {
	g := api.Graph{S: sized(195)}
	g.S.T[3].F[4].Name = "äöüàé" // five signs in the place of one
	if size, e := len(schema.Text(g.S)), errorOf(Put(g)); size != 204 || e != api.ErrLimit {
		t.Error(size, e)
	}
	g.S.T[3].F[4].Name = "äöü"
	if size, e := len(schema.Text(g.S)), errorOf(Put(g)); size != 200 || e != api.OK {
		t.Error(size, e)
	}
	wantPut(t, g)
}

// errorOf is the error of a call.
func errorOf[A any](_ A, e api.Errno) api.Errno { return e }

// P10.1: the longest parts of objects, and of roots, are far from 200 bytes, so that they are never too long.
func TestLongestObjects(t *testing.T) {
	texts, numbers := of("a{a:t,b:t,c:t,d:t,e:t}"), of("a{a:i64,b:i64,c:i64,d:i64,e:i64}")
	for i := range 8 {
		texts.O = append(texts.O, obj(i, 0, slices.Repeat([]api.Val{text("123456789012")}, 5)...))
		numbers.O = append(numbers.O, obj(i, 0, slices.Repeat([]api.Val{num(math.MinInt64)}, 5)...))
	}
	for _, x := range []struct {
		g    api.Graph
		size int
	}{{rooted(texts, 7, 0, 3), 1 + 5*13}, {rooted(numbers, 7, 0, 3), 1 + 5*10}} {
		b, e := wantPut(t, x.g)
		f, _ := flow.Get(b)
		if e != api.OK || len(f.Parts) != 5 || len(f.Parts[1]) != 3 || len(f.Parts[4]) != x.size {
			t.Errorf("Put of %v is of %v, %d", x.g, f, e)
		}
		wantRead(t, b, canon.Canon(x.g), api.OK)
	}
}

// rows are the parts of a graph of three types: its objects are a b, a c, and an a that leads back to the first one.
func rows() [][]byte {
	return [][]byte{[]byte("a{n:i8,o:*b,s:t}b{o:*a}c{}"), {1, 0, 2}, {1, 3}, {2}, {0, 1, 1, 2, 'h', 'i'}}
}

func rowsGraph() api.Graph {
	g := of("a{n:i8,o:*b,s:t}b{o:*a}c{}", obj(0, 1, lead(2)), obj(1, 2), obj(2, 0, num(-1), lead(0), text("hi")))
	return rooted(g, 0, -1, 1)
}

// instead is rows with another part i.
func instead(i int, part ...byte) []byte {
	parts := rows()
	parts[i] = part
	return flowOf(parts...)
}

// P10.2: what is read, by hand.
func TestGet(t *testing.T) {
	wantRead(t, flowOf(rows()...), rowsGraph(), api.OK)
	for i, x := range []struct {
		b    []byte
		want func(*api.Graph)
	}{
		{instead(1, 1, 2), func(g *api.Graph) { g.Roots = []int{0, 1} }},
		{instead(1, 0, 1, 2), func(g *api.Graph) { g.Roots = []int{-1, 0, 1} }},
		{instead(1, 1, 2, 1), func(g *api.Graph) { g.Roots = []int{0, 1, 0} }},
		{instead(1, 1, 2, 3), func(g *api.Graph) { g.Roots = []int{0, 1, 2} }},
		{instead(4, 0, 255, 1, 0, 0), func(g *api.Graph) { g.O[2].F = []api.Val{num(-128), lead(-1), text("")} }},
		{instead(4, 0, 254, 1, 1, 1, 255), func(g *api.Graph) { g.O[2].F = []api.Val{num(127), lead(0), text("\xff")} }},
		{instead(4, append([]byte{0, 0, 0, 12}, "123456789012"...)...), func(g *api.Graph) { g.O[2].F = []api.Val{num(0), lead(-1), text("123456789012")} }},
		{instead(0, []byte("a{n:i32,o:*b,s:t}b{o:*a}c{}")...), func(g *api.Graph) { g.S.T[0].F[0].Kind = 2 }},
		{instead(0, []byte("a{n:i8,o:*b,s:t}b{o:*a}c{}d{}")...), func(g *api.Graph) { g.S.T = append(g.S.T, api.Type{Name: "d"}) }},
		{instead(0, []byte("ä{n:i8,o:*b,s:t}b{o:*ä}c{}")...), func(g *api.Graph) { g.S.T[0].Name, g.S.T[1].F[0].To = "ä", "ä" }},
	} {
		want := with(rowsGraph(), x.want)
		if !graph.May(want) || !graph.Same(want, canon.Canon(want)) {
			t.Fatal("no Canon:", i, want)
		}
		wantRead(t, x.b, want, api.OK)
		wantGet(t, x.b)
	}
}

// P10.2: ErrForm of parts that are no graph's, by hand.
func TestGetOfNoGraphs(t *testing.T) {
	n := func(numbers ...uint64) []byte {
		var b []byte
		for _, n := range numbers {
			b = binary.AppendUvarint(b, n)
		}
		return b
	}
	cat := func(parts ...[]byte) []byte { return slices.Concat(parts...) }
	parts := map[int][][]byte{
		// Schemas' texts that are none, and those of which the objects are not.
		0: {nil, []byte("a"), []byte("a{"), []byte("a{}a{}"), []byte("a{n:i8,o:*b,s:t}b{o:*a}c{}d{}e{}"), []byte("a{n:i8,o:*b,s:t}b{o:*a}c{} "), []byte("a{n:i8,o:*b,s:t,}b{o:*a}c{}"), []byte("a{n:i8,o:*b,s:t}b{o:*a}c{}\x00"),
			[]byte("a{n:i9,o:*b,s:t}b{o:*a}c{}"), []byte("A{n:i8,o:*b,s:t}b{o:*A}c{}"), []byte("a{n:i8,o:*d,s:t}b{o:*a}c{}"), []byte("a{n:i8,o:*b,s:t}b{o:*a}c{}\xff{}"), {0}, {255}, bytes.Repeat([]byte("a{}"), 66),
			[]byte("a{n:i8,o:*b,s:t}b{o:*a}"), []byte("a{n:i8,o:*b,s:t}b{o:*b}c{}"), []byte("a{n:i8,o:*a,s:t}b{o:*a}c{}"), []byte("a{n:i8,o:*b,s:t}b{}c{}"), []byte("a{n:i8,o:*b,s:t}b{o:*a}c{n:i8}"), []byte("c{}b{o:*a}a{n:i8,o:*b,s:t}"), []byte("a{n:t,o:*b,s:t}b{o:*a}c{}")},
		// Roots: cut, a byte more, bytes that are not as few as can be, to no object, such that one is not met, or in another order, and more than may be.
		1: {nil, {1}, {1, 0}, {1, 0, 130}, {128}, {1, 0, 2, 0}, {1, 0, 2, 128}, {1, 0, 2, 255}, {129, 0, 0, 2}, {1, 128, 0, 2}, {1, 0, 130, 0}, {1, 0, 130, 128, 0}, {1, 0, 4}, {1, 0, 9}, {1, 2, 4}, {2, 0, 1}, {0, 2, 1}, {3, 0, 2}, {1, 3, 2}, {1, 0, 3}, {1, 0, 1}, {0, 0, 0}, {0, 0, 2}, {1, 0, 0}, {1, 2, 3, 1}, {1, 2, 0, 0}, make([]byte, 200),
			n(1, 0, 256+2), n(1, 0, 1<<30+1), n(1, 0, 1<<30+2), n(1, 0, 1<<32+2), n(1, 1<<32, 2), n(1, 0, 1<<63), n(1, 0, 1<<63+2), n(1, 0, math.MaxUint64), n(1, math.MaxUint64, 2), cat(n(1, 0), bytes.Repeat([]byte{255}, 9), []byte{2}), cat(n(1, 0), bytes.Repeat([]byte{130}, 20))},
		// A b: nothing, T alone, of no type, or of another one, its Ref to no object, to one of another type, or to none (so that the last one is not met), and a byte more.
		2: {nil, {1}, {1, 3, 0}, {1, 3, 3}, {1, 0}, {1, 1}, {1, 2}, {1, 4}, {1, 9}, {1, 131}, {1, 131, 0}, {129, 0, 3}, {128}, {129}, {3, 3}, {3}, {4, 3}, {127, 3}, {0, 3}, {2, 3}, {2}, {0, 1, 1, 2, 'h', 'i'},
			n(1, 1<<30), n(1, 1<<30+1), n(1, 1<<30+2), n(1, 1<<32+3), n(1, 1<<63+3), n(1, math.MaxUint64), n(1<<8+1, 3), n(1<<32+1, 3), n(1<<63, 3), n(1<<63+1, 3), n(math.MaxUint64, 3), cat(bytes.Repeat([]byte{255}, 10), []byte{3})},
		// A c, which has no fields.
		3: {nil, {0}, {1}, {3}, {2, 0}, {2, 2}, {130, 0}, {130}, {1, 1}, {1, 2}, n(1<<32 + 2), n(1<<63 + 2), n(math.MaxUint64)},
		// An a: its values lack, are one too many, or do not fit.
		4: {nil, {0}, {0, 1}, {0, 1, 1}, {0, 1, 1, 2}, {0, 1, 1, 2, 'h'}, {0, 1, 1, 2, 'h', 'i', 0}, {0, 1, 1, 2, 'h', 'i', 'j'}, {0, 1, 1, 1, 'h', 'i'}, {0, 1, 1, 3, 'h', 'i'}, {0, 1, 1, 0, 2}, {0, 1, 1, 130, 0, 'h', 'i'}, {0, 129, 0, 1, 2, 'h', 'i'}, {0, 1, 129, 0, 2, 'h', 'i'}, {128, 0, 1, 1, 2, 'h', 'i'}, {0, 1, 1, 130},
			{0, 128, 2, 1, 0}, {0, 129, 2, 1, 0}, {0, 255, 255, 3, 1, 0}, cat([]byte{0}, n(1<<63), []byte{1, 0}), cat([]byte{0}, n(math.MaxUint64), []byte{1, 0}), {0, 1, 2, 0}, {0, 1, 3, 0}, {0, 1, 4, 0}, {0, 1, 9, 0}, cat([]byte{0, 1}, n(1<<32+1), []byte{0}), cat([]byte{0, 1}, n(1<<63+1), []byte{0}),
			append([]byte{0, 0, 0, 13}, "1234567890123"...), cat([]byte{0, 0, 0, 127}, make([]byte, 127)), cat([]byte{0, 0, 0}, n(128), make([]byte, 128)), cat([]byte{0, 0, 0}, n(1<<63)), cat([]byte{0, 0, 0}, n(math.MaxUint64)), make([]byte, 200), {1, 1}, {2}, {3}, {1, 1, 1, 2, 'h', 'i'}},
	}
	for i, list := range parts {
		for _, part := range list {
			wantRefused(t, instead(i, part...), api.ErrForm)
			wantGet(t, instead(i, part...))
		}
	}
}

// P10.2: ErrForm of flows that lack parts, have some more, or in another order, and of another base.
func TestGetOfOtherParts(t *testing.T) {
	all := rows()
	a, b, c := all[2], all[3], all[4]
	for _, parts := range [][][]byte{
		nil, {{}}, {all[0]}, {all[1]}, {{}, {}}, {{}, all[1]}, all[1:], all[2:], all[:2], all[:3], all[:4], {all[0], all[2], all[3], all[4]}, {all[1], all[0], a, b, c}, {all[0], a, all[1], b, c},
		{all[0], all[1], b, a, c}, {all[0], all[1], c, b, a}, {all[0], all[1], a, c, b}, {all[0], all[1], b, b, c}, {all[0], all[1], c, c, c}, {all[0], all[1], a, b, c, c}, {all[0], all[1], a, b, c, b}, {all[0], all[1], a, b, c, {}}, {all[0], all[1], a, b, c, nil, nil},
		{all[0], all[0], all[1], a, b, c}, {all[0], all[1], all[1], a, b, c}, {all[0], {}, a, b, c}, {all[0], {0}, a, b, c}, {all[0], {}, b}, {all[0], {0}, b}, {all[0], {1}}, {all[0], {1, 1}, b, b}, {all[0], {1, 3}, b, b}, {all[0], {2, 1}, b, b}, {all[0], {1, 2, 2, 1}, b, b},
	} {
		wantRefused(t, flowOf(parts...), api.ErrForm)
		wantGet(t, flowOf(parts...))
	}
	// Without objects, or with two that are alike, these are graphs'.
	wantRead(t, flowOf(all[0], nil), api.Graph{S: rowsGraph().S}, api.OK)
	wantRead(t, flowOf(all[0], []byte{0, 0, 0}), rooted(api.Graph{S: rowsGraph().S}, -1, -1, -1), api.OK)
	wantRead(t, flowOf(all[0], []byte{1, 2}, b, b), rooted(api.Graph{S: rowsGraph().S, O: []api.Obj{obj(0, 2), obj(1, 2)}}, 0, 1), api.OK)
	for bit := range 32 {
		for _, parts := range [][][]byte{rows(), {all[0], {}}, {}} {
			b, _ := flow.Put(api.Flow{Base: 1 << bit, Parts: parts})
			wantRefused(t, b, api.ErrForm)
		}
	}
	b, _ = flow.Put(api.Flow{Base: math.MaxUint32, Parts: rows()})
	wantRefused(t, b, api.ErrForm)
}

// P10.2: more objects, and roots, than may be, all of them met.
func TestGetOfTooMany(t *testing.T) {
	for count := range 39 {
		parts := [][]byte{[]byte("a{o:*a}"), {1}}
		for i := range count {
			parts = append(parts, []byte{0, byte(i + 2)})
		}
		if count > 0 {
			parts[len(parts)-1][1] = 0
		} else {
			parts[1] = nil
		}
		if got := errorOf(Get(flowOf(parts...))); (got == api.OK) != (count <= 8) {
			t.Errorf("Get of %d objects: %d", count, got)
		}
		wantGet(t, flowOf(parts...))
	}
	for count := range 201 {
		for _, root := range []byte{0, 1} {
			parts := [][]byte{[]byte("a{}"), bytes.Repeat([]byte{root}, count)}
			if root == 1 && count > 0 {
				parts = append(parts, []byte{0})
			}
			if got := errorOf(Get(flowOf(parts...))); (got == api.OK) != (count <= 3) {
				t.Errorf("Get of %d roots: %d", count, got)
			}
			wantGet(t, flowOf(parts...))
		}
	}
}

// raw are frames, one behind the other, whatever their order.
func raw(list ...api.Frame) []byte {
	var b []byte
	for _, f := range list {
		put, e := frame.Put(f)
		if e != api.OK {
			panic(e)
		}
		b = append(b, put...)
	}
	return b
}

// P10.2, R2: each of flow's errors, ahead of ErrForm of what stands in it.
func TestGetErrorsOfFlow(t *testing.T) {
	b, example := flowOf(rows()...), flowOf([]byte("a{}"), nil)
	none := flowOf([]byte("no schema's"), []byte{128})
	turned := func(b []byte, at int) []byte {
		b = slices.Clone(b)
		b[at] ^= 4
		return b
	}
	head, tail := api.Frame{Kind: 1, Body: []byte{1, 0, 2}}, api.Frame{Kind: 3, Body: []byte{2}}
	first, second := api.Frame{Kind: 2, Body: []byte("\x00a{}")}, api.Frame{Kind: 2, Body: []byte{1}}
	if !bytes.Equal(raw(head, first, second, tail), example) {
		t.Fatal("not the example's frames")
	}
	long := api.Frame{Kind: 2, Body: append([]byte{0}, schema.Text(sized(201))...)}
	for i, x := range []struct {
		b    []byte
		want api.Errno
	}{
		{nil, api.ErrOrder}, {[]byte{}, api.ErrOrder}, {[]byte{1}, api.ErrForm}, {[]byte("a{}"), api.ErrForm}, {make([]byte, 6), api.ErrSum}, {[]byte("a{n:i32,o:*a}"), api.ErrSum},
		{b[:5], api.ErrForm}, {b[:len(b)-1], api.ErrForm}, {b[1:], api.ErrSum}, {turned(b, 0), api.ErrSum}, {turned(b, 7), api.ErrSum}, {turned(b, len(b)-1), api.ErrSum},
		{none[:len(none)-1], api.ErrForm}, {turned(none, 20), api.ErrSum}, {append(slices.Clone(none), 0), api.ErrForm}, {slices.Concat(none, none), api.ErrOrder},
		{b[:13], api.ErrOrder}, {b[13:], api.ErrOrder}, {slices.Concat(b, b), api.ErrOrder}, {slices.Concat(b, example), api.ErrOrder},
		{raw(head), api.ErrOrder}, {raw(head, tail), api.ErrOrder}, {raw(head, first, tail), api.ErrOrder}, {raw(head, second, first, tail), api.ErrOrder}, {raw(head, first, second), api.ErrOrder}, {raw(first, second), api.ErrOrder}, {raw(head, first, second, tail, tail), api.ErrOrder},
		{raw(api.Frame{Kind: 1, Body: []byte{2, 0, 2}}, first, second, tail), api.ErrOrder}, {raw(api.Frame{Kind: 1, Body: []byte{1, 128, 0, 2}}, first, second, tail), api.ErrOrder}, {raw(head, api.Frame{Kind: 2, Body: []byte("\x80\x00a{}")}, second, tail), api.ErrOrder},
		{raw(head, long, second, tail), api.ErrOrder}, // a schema's text of which there are no bytes
	} {
		if e := errorOf(flow.Get(x.b)); e != x.want {
			t.Fatalf("%d: flow's error of %v is %d", i, x.b, e)
		}
		wantRefused(t, x.b, x.want)
	}
	long.Body = append([]byte{0}, schema.Text(sized(200))...)
	wantRead(t, raw(head, long, second, tail), api.Graph{S: sized(200)}, api.OK)
}

// words are all rows of up to so many of these bytes.
func words(most int, letters ...byte) [][]byte {
	list := [][]byte{{}}
	for at := 0; at < len(list); at++ {
		if w := list[at]; len(w) < most {
			for _, x := range letters {
				list = append(list, append(slices.Clone(w), x))
			}
		}
	}
	return list
}

// canons are the bytes of all graphs of s that are their own Canon, of up to two objects, and three roots, of values from a list.
func canons(t *testing.T, s api.Schema, numbers, refs []int) map[string]api.Graph {
	found := map[string]api.Graph{}
	var grow func(g api.Graph)
	var fill func(g api.Graph, o api.Obj)
	grow = func(g api.Graph) {
		if graph.May(g) && graph.Same(canon.Canon(g), g) {
			b, e := wantPut(t, g)
			if _, was := found[string(b)]; was || e != api.OK {
				t.Fatalf("Put of %v is %v, %d, as that of another one", g, b, e)
			}
			found[string(b)] = g
		}
		if len(g.Roots) < 3 {
			for _, id := range refs {
				grow(rooted(g, append(slices.Clone(g.Roots), id)...))
			}
		}
		if len(g.O) < 2 && len(g.Roots) == 0 {
			for place := range s.T {
				fill(g, api.Obj{Id: len(g.O), T: place})
			}
		}
	}
	fill = func(g api.Graph, o api.Obj) {
		if len(o.F) == len(s.T[o.T].F) {
			grow(with(g, func(g *api.Graph) { g.O = append(g.O, o) }))
			return
		}
		values := numbers
		if s.T[o.T].F[len(o.F)].Kind == 5 {
			values = refs
		}
		for _, n := range values {
			v := num(n)
			if s.T[o.T].F[len(o.F)].Kind == 5 {
				v = lead(n)
			}
			fill(g, api.Obj{Id: o.Id, T: o.T, F: append(slices.Clone(o.F), v)})
		}
	}
	grow(api.Graph{S: s})
	return found
}

// P10.2: of all small parts of two schemas just those are read that are some graph's, which is gone through by itself.
func TestGetOfAllSmall(t *testing.T) {
	for _, x := range []struct {
		text    string
		objects [][]byte // of the greatest flows
	}{
		{"a{n:i8,o:*a}", slices.Concat(words(2, 0, 1), [][]byte{{0, 2, 3}, {0, 3, 0}, {0, 3, 1}, {0, 3, 2}, {0, 0, 0, 0}, {1, 0, 0}, {0, 128, 0}, {128, 0, 0}}, [][]byte{{0, 0, 0}, {0, 0, 1}, {0, 0, 2}, {0, 1, 0}, {0, 1, 1}, {0, 1, 2}, {0, 2, 0}, {0, 2, 1}, {0, 2, 2}})},
		{"a{}b{o:*a,p:*b}", slices.Concat(words(2, 0, 1), [][]byte{{1, 0, 0}, {1, 0, 1}, {1, 0, 2}, {1, 1, 0}, {1, 1, 1}, {1, 1, 2}, {1, 2, 0}, {1, 2, 1}, {1, 2, 2}, {1, 3, 0}, {1, 0, 3}, {0, 0, 0}, {2}, {2, 0, 0}, {1, 0, 0, 0}})},
	} {
		want := canons(t, schemaOf(x.text), []int{0, -1, 1, -2}, []int{-1, 0, 1, 2})
		read := map[string]bool{}
		try := func(parts ...[]byte) {
			b := flowOf(append([][]byte{[]byte(x.text)}, parts...)...)
			g, is := want[string(b)]
			if is {
				read[string(b)] = true
				wantRead(t, b, g, api.OK)
			} else {
				wantRefused(t, b, api.ErrForm)
			}
		}
		try()
		for _, roots := range words(4, 0, 1, 2, 3) {
			try(roots)
		}
		for _, roots := range words(3, 0, 1, 2, 3) {
			for _, o := range words(3, 0, 1, 2, 3) {
				try(roots, o)
			}
			for _, o := range x.objects {
				for _, p := range x.objects {
					try(roots, o, p)
				}
			}
		}
		if len(read) < len(want) || len(want) < 200 {
			t.Errorf("only %d of %d graphs of %s are among them", len(read), len(want), x.text)
		}
	}
}

// P10.1 to P10.3, over graphs by hand, and many by chance.
func TestAgainstTheWords(t *testing.T) {
	next := chance(101)
	list := haveBytes()
	for range 8000 {
		list = append(list, byChance(next))
	}
	sizes := map[int]int{}
	for _, g := range list {
		b, e := wantPut(t, g)
		if e != api.OK {
			t.Fatalf("Put of %v: %d", g, e)
		}
		first := canon.Canon(g)
		sizes[len(first.O)]++
		wantRead(t, b, first, api.OK)
		got, _ := Get(b)
		if again, e := Put(got); e != api.OK || !bytes.Equal(again, b) {
			t.Fatalf("%v is read as %v, and put as %v, %d", b, got, again, e)
		}
		sum, _ := Sum(g)
		for _, x := range []api.Graph{first, byOtherIds(next, g), graph.Sweep(g), got} {
			like, e := wantPut(t, x)
			if likeSum, _ := Sum(x); e != api.OK || !bytes.Equal(like, b) || likeSum != sum {
				t.Fatalf("%v is like %v, and put as %v, %d, sum %d, not %v, sum %d", x, g, like, e, likeSum, b, sum)
			}
		}
	}
	for n := range 9 {
		if sizes[n] < 20 {
			t.Errorf("only %d graphs of which %d objects are met were tried", sizes[n], n)
		}
	}
}

// P10.3: of two graphs the bytes are the same just if these are alike.
func TestAlike(t *testing.T) {
	next := chance(102)
	list := haveBytes()
	for _, g := range near() {
		list = append(list, byOtherIds(next, g))
	}
	s := "a{n:i8,o:*a}"
	for n := range 2 * 3 * 2 * 3 * 3 * 3 {
		ids := []int{-1, 3, 5}
		g := of(s, obj(3, 0, num(n%2), lead(ids[n/2%3])), obj(5, 0, num(n/6%2), lead(ids[n/12%3])))
		list = append(list, rooted(g, ids[n/36%3]), rooted(g, ids[n/36%3], ids[n/108%3]))
	}
	var put [][]byte
	var sums []uint32
	for _, g := range list {
		b, e := Put(g)
		sum, e2 := Sum(g)
		if e != api.OK || e2 != api.OK {
			t.Fatal(g, e, e2)
		}
		put, sums = append(put, b), append(sums, sum)
	}
	count := map[bool]int{}
	for i, a := range list {
		for k, b := range list {
			alike := canon.Iso(a, b)
			count[alike]++
			if bytes.Equal(put[i], put[k]) != alike || alike && sums[i] != sums[k] {
				t.Fatalf("%v and %v: alike is %v, but bytes are %v and %v, sums %d and %d", a, b, alike, put[i], put[k], sums[i], sums[k])
			}
		}
	}
	if count[true] < 2000 || count[false] < 2000 {
		t.Error("too few pairs were tried:", count)
	}
}

// P10.2: sums tell these graphs, which are not alike, from one another.
func TestSumsOfOthers(t *testing.T) {
	sums := map[uint32]api.Graph{}
	for _, g := range near() {
		sum, e := Sum(g)
		if was, is := sums[sum]; is || e != api.OK {
			t.Errorf("Sum of %v is %d, %d, as that of %v", g, sum, e, was)
		}
		sums[sum] = g
	}
	// Not that of Put, which tells only how many bytes there are.
	for _, g := range good() {
		put, _ := Put(g)
		sum, _ := Sum(g)
		if sum == crc32.ChecksumIEEE(put) {
			t.Errorf("Sum of %v is that of its bytes", g)
		}
	}
}

// flip turns bits of b round, from bit at on, in a copy, and tells whether they are all there.
func flip(b []byte, at int, pattern uint32) ([]byte, bool) {
	b = slices.Clone(b)
	for i := range 32 {
		if pattern>>i&1 == 0 {
			continue
		}
		if at+i >= 8*len(b) {
			return nil, false
		}
		b[(at+i)/8] ^= 1 << ((at + i) % 8)
	}
	return b, true
}

// whole are the bytes that others must not be read as.
func whole() [][]byte {
	var list [][]byte
	for _, g := range []api.Graph{of("a{}"), rooted(of("a{}", obj(0, 0)), -1, 0), rowsGraph(), rich(), rooted(row(), 70), {S: sized(200), Roots: []int{-1}}} {
		b, e := Put(g)
		if e != api.OK {
			panic(e)
		}
		list = append(list, b)
	}
	return list
}

// P10.3, P4: with bits turned round, in some of 32, nothing is read.
func TestOtherBits(t *testing.T) {
	var patterns []uint32
	for n := uint32(1); n < 64; n += 2 {
		patterns = append(patterns, n)
	}
	next := chance(103)
	for range 30 {
		patterns = append(patterns, uint32(next(1<<31))<<1|1)
	}
	patterns = append(patterns, math.MaxUint32, 1<<31|1, 0xedb88321, 0xff, 0xff00ff, 0x80808081)
	for _, b := range whole() {
		for at := range 8 * len(b) {
			for _, p := range patterns {
				if other, all := flip(b, at, p); all {
					if g, e := Get(other); e == api.OK || !graph.Same(g, api.Graph{}) {
						t.Fatalf("%v, with %x turned round from bit %d on, is read as %v, %d", b, p, at, g, e)
					}
				}
			}
			other, _ := flip(b, at, 1)
			wantGet(t, other)
		}
	}
}

// P10.3, P4: no beginning is read, no end, and nothing longer.
func TestCutAndLonger(t *testing.T) {
	for _, b := range whole() {
		for at := range b {
			for _, cut := range [][]byte{b[:at], b[at+1:], slices.Delete(slices.Clone(b), at, at+1), slices.Insert(slices.Clone(b), at, b[at])} {
				if g, e := Get(cut); e == api.OK || !graph.Same(g, api.Graph{}) {
					t.Fatalf("%v, at %d, is read as %v, %d", cut, at, g, e)
				}
				wantGet(t, cut)
			}
		}
		for n := range 256 {
			wantRefused(t, append(slices.Clone(b), byte(n)), api.ErrForm)
		}
		behind := [][]byte{make([]byte, 6), make([]byte, 10), make([]byte, 300), raw(api.Frame{Kind: 2}), raw(api.Frame{Kind: 3}), raw(api.Frame{Kind: 200, Body: []byte{1}}), b, b[13:], b[:13]}
		for _, more := range append(behind, whole()...) {
			for _, x := range [][]byte{slices.Concat(b, more), slices.Concat(more, b)} {
				if g, e := Get(x); e == api.OK || !graph.Same(g, api.Graph{}) {
					t.Fatalf("%v is read as %v, %d", x, g, e)
				}
			}
		}
	}
}

// P10.3, P4: nothing is read of which a frame lacks, is there twice, or in another one's place.
func TestFramesElsewhere(t *testing.T) {
	for _, b := range whole() {
		list, e := frame.All(b)
		if e != api.OK {
			t.Fatal(e)
		}
		for i := range list {
			lacks := slices.Delete(slices.Clone(list), i, i+1)
			wantRefused(t, raw(lacks...), api.ErrOrder)
			for k := range len(list) + 1 {
				wantRefused(t, raw(slices.Insert(slices.Clone(list), k, list[i])...), api.ErrOrder)
			}
			for k := range list {
				if i == k {
					continue
				}
				other := slices.Clone(list)
				other[k] = list[i]
				wantRefused(t, raw(other...), api.ErrOrder)
				other[i] = list[k]
				wantRefused(t, raw(other...), api.ErrOrder)
			}
		}
	}
}

// spot changes parts by chance: a byte, a byte more or less, or the parts' order.
func spot(next func(int) int, parts [][]byte) [][]byte {
	few := []byte{0, 1, 2, 3, 4, 8, 9, 12, 13, 127, 128, 129, 255, 'a', 'b', '{', '}'}
	i := next(len(parts))
	p, x := slices.Clone(parts[i]), few[next(len(few))]
	parts = slices.Clone(parts)
	switch next(7) {
	case 0:
		p = slices.Insert(p, next(len(p)+1), x)
	case 1:
		if len(p) > 0 {
			at := next(len(p))
			p = slices.Delete(p, at, at+1)
		}
	case 2, 3:
		if len(p) > 0 {
			p[next(len(p))] = x
		}
	case 4:
		k := next(len(parts))
		parts[i], parts[k] = parts[k], parts[i]
		return parts
	case 5:
		return slices.Delete(parts, i, i+1)
	case 6:
		return slices.Insert(parts, next(len(parts)+1), p)
	}
	parts[i] = p
	return parts
}

// P10.2: Get of parts of graphs, with some changes, against the words.
func TestGetAgainstTheWords(t *testing.T) {
	next, count := chance(104), map[bool]int{}
	for range 20000 {
		parts := partsOfGraph(byChance(next))
		for range 1 + next(2) {
			if len(parts) > 0 {
				parts = spot(next, parts)
			}
		}
		b := flowOf(parts...)
		is := wantGet(t, b)
		count[is]++
		if g, _ := Get(b); is {
			if again, e := Put(g); e != api.OK || !bytes.Equal(again, b) {
				t.Fatalf("%v is read as %v, and put as %v, %d", b, g, again, e)
			}
		}
	}
	if count[true] < 1500 || count[false] < 10000 {
		t.Error("too few parts were tried:", count)
	}
	for range 3000 {
		b := make([]byte, next(60))
		for i := range b {
			b[i] = byte(next(256))
		}
		wantGet(t, b)
	}
}

// P1, R1: much of everything is taken, and ends soon.
func TestLong(t *testing.T) {
	const count = 1 << 18
	long := strings.Repeat("a", 1<<20)
	chain := of(ringsText)
	for i := range count {
		chain.O = append(chain.O, pair(0, i, i+1, count-i))
	}
	for _, g := range []api.Graph{
		rooted(chain, 0, 1, count-1),
		rooted(row(), make([]int, count)...),
		rooted(of("a{}"), slices.Repeat([]int{-1}, count)...),
		{S: api.Schema{T: slices.Repeat([]api.Type{{Name: "a"}}, count)}},
		{S: api.Schema{T: []api.Type{{Name: "a", F: slices.Repeat([]api.Field{{Name: "n"}}, count)}}}},
		{S: api.Schema{T: []api.Type{{Name: long}}}},
		rooted(of("a{}", obj(0, 0, make([]api.Val, count)...)), 0),
		rooted(of("a{s:t}", obj(0, 0, text(long))), 0),
	} {
		if b, e := Put(g); e != api.ErrArg || len(b) != 0 {
			t.Error("Put of much:", len(g.O), len(g.Roots), len(g.S.T), e)
		}
		if sum, e := Sum(g); e != api.ErrArg || sum != 0 {
			t.Error("Sum of much:", len(g.O), len(g.Roots), len(g.S.T), e)
		}
	}
	example := flowOf([]byte("a{}"), nil)
	for _, b := range [][]byte{make([]byte, 1<<22), []byte(long), bytes.Repeat([]byte{255}, 1<<22), bytes.Repeat(raw(api.Frame{Kind: 2}), 1<<14), bytes.Repeat(example, 1<<12), append(example, make([]byte, 1<<22)...)} {
		if g, e := Get(b); e == api.OK || !graph.Same(g, api.Graph{}) {
			t.Error("Get of much:", len(b), e)
		}
	}
}

// R6: lists that are nil, or empty.
func TestEmptyLists(t *testing.T) {
	empty := api.Graph{S: api.Schema{T: []api.Type{{Name: "a", F: []api.Field{}}}}, O: []api.Obj{{Id: 3, F: []api.Val{}}}, Roots: []int{}}
	null := api.Graph{S: api.Schema{T: []api.Type{{Name: "a"}}}, O: []api.Obj{{Id: 3}}}
	for _, ids := range [][]int{nil, {}, {3}, {-1, 3}} {
		a, e := wantPut(t, rooted(empty, ids...))
		b, e2 := wantPut(t, rooted(null, ids...))
		if !bytes.Equal(a, b) || e != api.OK || e2 != api.OK {
			t.Error(a, e, b, e2)
		}
	}
	wantPut(t, api.Graph{S: empty.S, O: []api.Obj{}, Roots: []int{}})
	wantPut(t, api.Graph{S: api.Schema{T: []api.Type{}}, O: []api.Obj{}, Roots: []int{}})
	wantRefused(t, nil, api.ErrOrder)
	wantRefused(t, []byte{}, api.ErrOrder)
}

// roomy has room behind a list, with something in it.
func roomy[T any](list []T, behind T) []T {
	return append(slices.Clone(list), behind, behind, behind)[:len(list)]
}

func roomyCopy(g api.Graph) api.Graph {
	x := api.Graph{S: api.Schema{T: roomy(g.S.T, api.Type{Name: "z"})}, O: roomy(g.O, obj(99, 99)), Roots: roomy(g.Roots, 99)}
	for i := range x.S.T {
		x.S.T[i].F = roomy(x.S.T[i].F, api.Field{Name: "z"})
	}
	for i := range x.O {
		x.O[i].F = roomy(x.O[i].F, num(99))
	}
	return x
}

// withRoom is g, with all the room behind its lists.
func withRoom(g api.Graph) api.Graph {
	x := api.Graph{S: api.Schema{T: slices.Clone(g.S.T[:cap(g.S.T)])}, O: slices.Clone(g.O[:cap(g.O)]), Roots: g.Roots[:cap(g.Roots)]}
	for i := range x.S.T {
		x.S.T[i].F = x.S.T[i].F[:cap(x.S.T[i].F)]
	}
	for i := range x.O {
		x.O[i].F = x.O[i].F[:cap(x.O[i].F)]
	}
	return x
}

// spoil writes over all of a graph, and the room behind it.
func spoil(g api.Graph) {
	for _, t := range g.S.T[:cap(g.S.T)] {
		fill(t.F, api.Field{Name: "spoilt", Kind: 77})
	}
	for _, o := range g.O[:cap(g.O)] {
		fill(o.F, api.Val{N: 77, S: "spoilt", R: 77})
	}
	fill(g.S.T, api.Type{Name: "spoilt"})
	fill(g.O, obj(77, 77))
	fill(g.Roots, 77)
}

func fill[T any](list []T, x T) {
	list = list[:cap(list)]
	for i := range list {
		list[i] = x
	}
}

// R3: what is handed in stays as it was, also behind its lists' ends, and changes of it change no answer.
func TestHandedInStays(t *testing.T) {
	for _, x := range someGraphs() {
		g := roomyCopy(x)
		was := clone(withRoom(g))
		b, e := Put(g)
		Sum(g)
		if !graph.Same(withRoom(g), was) || !graph.Same(g, x) {
			t.Fatalf("%v became %v", x, g)
		}
		spoil(g)
		if want, wantE := putOf(x); e != wantE || !bytes.Equal(b, want) {
			t.Fatalf("Put of %v changes with it", x)
		}
		wantPut(t, x)
	}
	for _, b := range append(whole(), instead(4, 0), []byte{1, 2}, flowOf()) {
		room := append(slices.Clone(b), 9, 9, 9, 9)
		g, e := Get(room[:len(b)])
		if !bytes.Equal(room, append(slices.Clone(b), 9, 9, 9, 9)) {
			t.Fatalf("%v became %v", b, room)
		}
		clear(room)
		if want, wantE := getOf(b); e != wantE || !graph.Same(g, want) {
			t.Fatalf("Get of %v changes with it: %v, %d", b, g, e)
		}
	}
}

// R3: what is answered is the caller's own, and no two lists of one answer share memory.
func TestAnswersAreOnesOwn(t *testing.T) {
	for _, b := range whole() {
		want, _ := getOf(b)
		g, _ := Get(b)
		other, _ := Get(b)
		spoil(g)
		if !graph.Same(other, want) {
			t.Fatalf("Get of %v shares memory with another one", b)
		}
		wantGet(t, b)
		was := clone(other)
		for i := range other.O {
			fill(other.O[i].F, num(77))
			other.O[i].F = was.O[i].F
			if !graph.Same(other, was) {
				t.Fatalf("two lists of Get of %v share memory", b)
			}
		}
		for i := range other.S.T {
			fill(other.S.T[i].F, api.Field{Name: "spoilt"})
			other.S.T[i].F = was.S.T[i].F
			if !graph.Same(other, was) {
				t.Fatalf("two lists of Get of %v share memory", b)
			}
		}
	}
	for _, g := range haveBytes() {
		b, _ := Put(g)
		other, _ := Put(g)
		fill(b, 77)
		if want, _ := putOf(g); !bytes.Equal(other, want) {
			t.Fatalf("Put of %v shares memory with another one", g)
		}
		wantPut(t, g)
	}
}

// borrowed is a text that lies in bytes that can still be changed.
func borrowed(s string) (string, []byte) {
	b := []byte(s + " ")
	return unsafe.String(&b[0], len(s)), b
}

// R3: nothing of a text that was handed in is kept.
func TestTextsAreNotKept(t *testing.T) {
	g := rich()
	var all [][]byte
	lend := func(s *string) {
		lent, b := borrowed(*s)
		*s, all = lent, append(all, b)
	}
	for i := range g.S.T {
		lend(&g.S.T[i].Name)
		for k := range g.S.T[i].F {
			lend(&g.S.T[i].F[k].Name)
			lend(&g.S.T[i].F[k].To)
		}
	}
	for _, o := range g.O {
		for k := range o.F {
			lend(&o.F[k].S)
		}
	}
	got, _ := Put(g)
	for _, b := range all {
		fill(b, '?')
	}
	if want, _ := putOf(rich()); !bytes.Equal(got, want) {
		t.Fatal("a text is kept:", got)
	}
}

// R5: what is answered does not hang on what was asked before.
func TestAskedAgain(t *testing.T) {
	list := someGraphs()
	raws := append(whole(), instead(4, 0), instead(0), []byte{1, 2}, nil, flowOf())
	for i, g := range list {
		for range 2 {
			wantPut(t, g)
			wantGet(t, raws[i%len(raws)])
			Put(list[len(list)-1-i])
			Get(raws[(i+1)%len(raws)])
		}
	}
}

func FuzzCode(f *testing.F) {
	for seed := range uint64(20) {
		f.Add(seed, flowOf(rows()...), []byte{byte(seed), 0}, "a")
	}
	f.Add(uint64(7), []byte{1}, []byte{255, 255, 255, 255, 255, 255, 255, 255, 255, 1}, "")
	f.Fuzz(func(t *testing.T, seed uint64, b, part []byte, s string) {
		wantGet(t, b)
		if len(part) > 200 || len(s) > 200 {
			return
		}
		next := chance(seed)
		g := byChance(next)
		put, e := wantPut(t, g)
		if e != api.OK || !wantGet(t, put) {
			t.Fatalf("%v has no bytes: %d", g, e)
		}
		parts := partsOfGraph(g)
		for i := range parts {
			other := slices.Clone(parts)
			other[i] = part
			wantGet(t, flowOf(other...))
			other[0] = []byte(s)
			wantGet(t, flowOf(other...))
		}
		wantGet(t, flowOf(append(parts, part)...))
	})
}
