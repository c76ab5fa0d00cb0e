package delta

import (
	"math"
	"slices"
	"strings"
	"testing"
	"unsafe"

	"foliate/api"
	"foliate/canon"
	"foliate/code"
	"foliate/graph"
	"foliate/schema"
)

const top = 1073741824 // 2^30

func num(n int) api.Val     { return api.Val{N: n} }
func text(s string) api.Val { return api.Val{S: s} }
func lead(r int) api.Val    { return api.Val{R: r} }

func obj(id, t int, list ...api.Val) api.Obj { return api.Obj{Id: id, T: t, F: list} }

func set(f int, v api.Val) api.Cell { return api.Cell{F: f, V: v} }

func item(from, t int, list ...api.Cell) api.Item { return api.Item{From: from, T: t, Set: list} }

// fresh is an item of an object that was not there.
func fresh(t int, list ...api.Val) api.Item {
	x := item(-1, t)
	for k, v := range list {
		x.Set = append(x.Set, set(k, v))
	}
	return x
}

func schemaOf(s string) api.Schema {
	x, ok := schema.Read(s)
	if !ok {
		panic(s)
	}
	return x
}

// of is a graph of a schema's text, without roots.
func of(s string, list ...api.Obj) api.Graph { return api.Graph{S: schemaOf(s), O: list} }

// rooted is g with other roots.
func rooted(g api.Graph, ids ...int) api.Graph {
	g.Roots = ids
	return g
}

const (
	ringsText = "a{o:*a,n:i64,s:t,p:*a}"
	abText    = "a{n:i8,o:*b}b{o:*a}"
	richText  = "a{n:i8,o:*b,s:t}b{o:*a,p:*b}c{}d{h:i16,w:i32,l:i64,a:*a,c:*c}"
)

// pair is an object of ringsText, of a number that tells which one it was.
func pair(n, id, o, p int) api.Obj { return obj(id, 0, lead(o), num(n), text(""), lead(p)) }

func rings(list ...api.Obj) api.Graph { return of(ringsText, list...) }

// row are eight objects, each of which leads to the one ahead of it, and the first one to none.
func row() api.Graph {
	g := rings(pair(0, 0, -1, -1))
	for i := 1; i < 8; i++ {
		g.O = append(g.O, pair(i, 10*i, -1, 10*i-10))
	}
	return g
}

// rich is a graph of four types, all kinds, and objects of each type; one of them is not met.
func rich() api.Graph {
	g := of(richText,
		obj(0, 0, num(-128), lead(3), text("")),
		obj(2, 2),
		obj(3, 1, lead(0), lead(3)),
		obj(7, 0, num(127), lead(-1), text("123456789012")),
		obj(8, 3, num(-32768), num(2147483647), num(math.MinInt64), lead(7), lead(2)),
		obj(top, 1, lead(7), lead(3)),
	)
	return rooted(g, 8, -1, 3)
}

// clone shares nothing with a graph but its texts.
func clone(g api.Graph) api.Graph {
	x := api.Graph{S: api.Schema{T: slices.Clone(g.S.T)}, O: slices.Clone(g.O), Roots: slices.Clone(g.Roots)}
	for i := range x.S.T {
		x.S.T[i].F = slices.Clone(x.S.T[i].F)
	}
	for i := range x.O {
		x.O[i].F = slices.Clone(x.O[i].F)
	}
	return x
}

// with is a copy of g, changed.
func with(g api.Graph, change func(*api.Graph)) api.Graph {
	x := clone(g)
	change(&x)
	return x
}

// copyOf shares nothing with a delta but its texts.
func copyOf(d api.Delta) api.Delta {
	x := api.Delta{Base: d.Base, Roots: slices.Clone(d.Roots), L: slices.Clone(d.L)}
	for i := range x.L {
		x.L[i].Set = slices.Clone(x.L[i].Set)
	}
	return x
}

// but is a copy of d, changed.
func but(d api.Delta, change func(*api.Delta)) api.Delta {
	x := copyOf(d)
	change(&x)
	return x
}

// sized is a schema whose text has so many bytes, from 88 to 228.
func sized(size int) api.Schema {
	s := schemaOf("a{a:t,b:t,c:t,d:t,e:t}b{a:t,b:t,c:t,d:t,e:t}c{a:t,b:t,c:t,d:t,e:t}d{a:t,b:t,c:t,d:t,e:t}")
	more := size - len(schema.Text(s))
	for _, t := range s.T {
		for k := range t.F {
			n := min(more, 7)
			t.F[k].Name += strings.Repeat("1", n)
			more -= n
		}
	}
	if got := len(schema.Text(s)); got != size {
		panic(got)
	}
	return s
}

func objOf(g api.Graph, id int) api.Obj {
	return g.O[slices.IndexFunc(g.O, func(o api.Obj) bool { return o.Id == id })]
}

// makeOf is P11.1's Make, word by word.
func makeOf(a, b api.Graph) (api.Delta, api.Errno) {
	if !graph.May(a) || !graph.May(b) {
		return api.Delta{}, 1
	}
	if !schema.Same(a.S, b.S) {
		return api.Delta{}, 6
	}
	for _, o := range a.O {
		for _, p := range b.O {
			if o.Id == p.Id && o.T != p.T {
				return api.Delta{}, 6
			}
		}
	}
	sum, e := code.Sum(a)
	if e != 0 {
		return api.Delta{}, e
	}
	d := api.Delta{Base: sum, Roots: canon.Canon(b).Roots}
	for place, id := range canon.Order(b) {
		x := item(slices.Index(canon.Order(a), id), objOf(b, id).T)
		for k, v := range objOf(b, id).F {
			if x.From == -1 || objOf(a, id).F[k] != v {
				x.Set = append(x.Set, set(k, canon.Canon(b).O[place].F[k]))
			}
		}
		d.L = append(d.L, x)
	}
	return d, 0
}

// applyOf is P11.2's Apply, word by word.
func applyOf(g api.Graph, d api.Delta) (api.Graph, api.Errno) {
	if !graph.May(g) {
		return api.Graph{}, 1
	}
	sum, e := code.Sum(g)
	if e != 0 {
		return api.Graph{}, e
	}
	if sum != d.Base {
		return api.Graph{}, 7
	}
	x := api.Graph{S: g.S, Roots: d.Roots}
	for id := range d.L {
		list, ok := valuesSaid(canon.Canon(g), d.L, id)
		if !ok {
			return api.Graph{}, 2
		}
		x.O = append(x.O, obj(id, d.L[id].T, list...))
	}
	if !graph.May(x) || !graph.Same(canon.Canon(x), x) {
		return api.Graph{}, 2
	}
	return x, 0
}

// valuesSaid are the values of item i, if the words say any.
func valuesSaid(was api.Graph, items []api.Item, i int) ([]api.Val, bool) {
	x := items[i]
	if x.T < 0 || x.T >= len(was.S.T) {
		return nil, false
	}
	fields, at := was.S.T[x.T].F, map[int]api.Val{}
	for k, c := range x.Set {
		if c.F < 0 || c.F >= len(fields) || k > 0 && x.Set[k-1].F >= c.F {
			return nil, false
		}
		at[c.F] = c.V
	}
	if x.From == -1 {
		if len(at) != len(fields) {
			return nil, false
		}
	} else if x.From < 0 || x.From >= len(was.O) || was.O[x.From].T != x.T {
		return nil, false
	}
	for k, other := range items {
		if x.From != -1 && k != i && other.From == x.From {
			return nil, false
		}
	}
	var list []api.Val
	for k, f := range fields {
		v, is := at[k]
		if !is {
			v = was.O[x.From].F[k]
			if f.Kind == 5 && v.R != -1 {
				v.R = slices.IndexFunc(items, func(other api.Item) bool { return other.From == v.R })
				if v.R == -1 {
					return nil, false
				}
			}
		}
		list = append(list, v)
	}
	return list, true
}

// sameOf is P11.1's Same, word by word.
func sameOf(a, b api.Delta) bool {
	if a.Base != b.Base || len(a.Roots) != len(b.Roots) || len(a.L) != len(b.L) {
		return false
	}
	for i, id := range a.Roots {
		if id != b.Roots[i] {
			return false
		}
	}
	for i, x := range a.L {
		y := b.L[i]
		if x.From != y.From || x.T != y.T || len(x.Set) != len(y.Set) {
			return false
		}
		for k, c := range x.Set {
			if o := y.Set[k]; c.F != o.F || c.V.N != o.V.N || c.V.S != o.V.S || c.V.R != o.V.R {
				return false
			}
		}
	}
	return true
}

func wantMade(t testing.TB, a, b api.Graph, want api.Delta, wantE api.Errno) {
	t.Helper()
	if d, e := Make(a, b); e != wantE || !sameOf(d, want) {
		t.Fatalf("Make of %v and %v is %v, %d, not %v, %d", a, b, d, e, want, wantE)
	}
}

// wantMake holds Make against the words, and answers what it does.
func wantMake(t testing.TB, a, b api.Graph) (api.Delta, api.Errno) {
	t.Helper()
	want, wantE := makeOf(a, b)
	wantMade(t, a, b, want, wantE)
	return want, wantE
}

func wantApplied(t testing.TB, g api.Graph, d api.Delta, want api.Graph, wantE api.Errno) {
	t.Helper()
	if x, e := Apply(g, d); e != wantE || !graph.Same(x, want) {
		t.Fatalf("Apply of %v and %v is %v, %d, not %v, %d", g, d, x, e, want, wantE)
	}
}

// wantApply holds Apply against the words, and answers its error.
func wantApply(t testing.TB, g api.Graph, d api.Delta) api.Errno {
	t.Helper()
	want, wantE := applyOf(g, d)
	wantApplied(t, g, d, want, wantE)
	return wantE
}

func wantSame(t testing.TB, a, b api.Delta, want bool) {
	t.Helper()
	if Same(a, b) != want || Same(b, a) != want {
		t.Fatalf("Same of %v and %v is %v, and %v the other way round, not %v", a, b, Same(a, b), Same(b, a), want)
	}
}

func sumOf(g api.Graph) uint32 {
	sum, e := code.Sum(g)
	if e != api.OK {
		panic(e)
	}
	return sum
}

// chance hands on numbers that look like chance, the same ones each time.
func chance(seed uint64) func(below int) int {
	return func(below int) int {
		seed = seed*6364136223846793005 + 1442695040888963407
		return int(seed >> 33 % uint64(below))
	}
}

func texts() []string {
	return []string{abText, ringsText, richText, "a{}", "a{o:*b,p:*b,q:*b,r:*c,s:*d}b{o:*a}c{o:*c}d{}", "a{o:*a,p:*a,q:*a}"}
}

// byChance is a graph that may be, of up to eight objects.
func byChance(next func(int) int) api.Graph { return byChanceOf(next, texts()[next(len(texts()))]) }

func byChanceOf(next func(int) int, s string) api.Graph {
	g := of(s)
	id := next(3)
	for range next(9) {
		g.O = append(g.O, obj(id, next(len(g.S.T))))
		id += 1 + next(2)*next(4)
	}
	for i := range g.O {
		for _, f := range g.S.T[g.O[i].T].F {
			g.O[i].F = append(g.O[i].F, valueByChance(next, g, f))
		}
	}
	for range next(4) {
		g.Roots = append(g.Roots, rootByChance(next, g))
	}
	return g
}

func rootByChance(next func(int) int, g api.Graph) int {
	if len(g.O) == 0 || next(5) == 0 {
		return -1
	}
	return g.O[next(len(g.O))].Id
}

// valueByChance is one that g may have there.
func valueByChance(next func(int) int, g api.Graph, f api.Field) api.Val {
	switch f.Kind {
	case 4:
		return text("1\x00ä\xff6789012"[:next(2)*next(13)])
	case 5:
		ids := []int{-1}
		for _, o := range g.O {
			if g.S.T[o.T].Name == f.To {
				ids = append(ids, o.Id)
			}
		}
		return lead(ids[next(len(ids))])
	}
	bits := []int{7, 15, 31, 63}[f.Kind]
	most := 1<<bits - 1
	return num([]int{0, 1, -1, 63, -65, most, -most - 1, next(1<<31) >> (31 - min(bits, 31))}[next(8)])
}

// laterOf is what g may have become: some objects are new, some gone, and some have other values; of Ids that both have the types are the same.
func laterOf(next func(int) int, g api.Graph) api.Graph {
	x := clone(g)
	for range next(6) {
		switch next(6) {
		case 0:
			x = more(next, x)
		case 1:
			x = less(next, x)
		case 2:
			x.Roots = nil
			for range next(4) {
				x.Roots = append(x.Roots, rootByChance(next, x))
			}
		default:
			setByChance(next, x)
		}
	}
	return x
}

func setByChance(next func(int) int, g api.Graph) {
	if len(g.O) == 0 {
		return
	}
	o := g.O[next(len(g.O))]
	if len(o.F) > 0 {
		k := next(len(o.F))
		o.F[k] = valueByChance(next, g, g.S.T[o.T].F[k])
	}
}

// more is g with an object more, if there is room. Its Id is none of the few that graphs by chance have, so that its type is free.
func more(next func(int) int, g api.Graph) api.Graph {
	id := 100 + next(40)
	if len(g.O) == 8 || slices.ContainsFunc(g.O, func(o api.Obj) bool { return o.Id == id }) {
		return g
	}
	o := obj(id, id%len(g.S.T))
	g.O = append(g.O, o)
	slices.SortFunc(g.O, func(a, b api.Obj) int { return a.Id - b.Id })
	i := graph.Find(g, id)
	for _, f := range g.S.T[o.T].F {
		g.O[i].F = append(g.O[i].F, valueByChance(next, g, f))
	}
	if len(g.Roots) < 3 && next(2) == 0 {
		g.Roots = append(g.Roots, id)
	} else {
		setByChance(next, g)
	}
	return g
}

// less is g with an object less, and with none in its place.
func less(next func(int) int, g api.Graph) api.Graph {
	if len(g.O) == 0 {
		return g
	}
	i := next(len(g.O))
	id := g.O[i].Id
	g.O = slices.Delete(g.O, i, i+1)
	for _, o := range g.O {
		for k, f := range g.S.T[o.T].F {
			if f.Kind == 5 && o.F[k].R == id {
				o.F[k].R = -1
			}
		}
	}
	for i := range g.Roots {
		if g.Roots[i] == id {
			g.Roots[i] = -1
		}
	}
	return g
}

// byOtherIds is a graph that is like g: by other Ids, and in another order.
func byOtherIds(next func(int) int, g api.Graph) api.Graph {
	ids := make([]int, len(g.O))
	id := next(3)
	for i := range ids {
		ids[i] = id
		id += 1 + next(2)*next(1<<20)
	}
	for i := range ids {
		k := i + next(len(ids)-i)
		ids[i], ids[k] = ids[k], ids[i]
	}
	to := map[int]int{-1: -1}
	for i, o := range g.O {
		to[o.Id] = ids[i]
	}
	x := clone(g)
	for i := range x.O {
		x.O[i].Id = ids[i]
		for k, f := range x.S.T[x.O[i].T].F {
			if f.Kind == 5 {
				x.O[i].F[k].R = to[x.O[i].F[k].R]
			}
		}
	}
	for i, id := range x.Roots {
		x.Roots[i] = to[id]
	}
	slices.SortFunc(x.O, func(a, b api.Obj) int { return a.Id - b.Id })
	return x
}

// good are graphs that may be, and have a Sum.
func good() []api.Graph {
	return []api.Graph{
		of("a{}"), of(abText), rings(), row(), rich(), rooted(of("a{}", obj(0, 0), obj(1, 0)), 1, 0),
		rooted(of("a{}"), -1), rooted(of(abText), -1, -1, -1), {S: rich().S}, rooted(rich(), top, 7), rooted(rich()), rooted(rich(), -1, 2),
		of(abText, obj(0, 0, num(1), lead(-1))), rooted(of(abText, obj(0, 1, lead(-1)), obj(top, 1, lead(-1))), top, 0),
		rooted(of(abText, obj(4, 0, num(0), lead(9)), obj(9, 1, lead(4))), 9, 4, 9),
		rooted(rings(pair(1, 5, 5, 5)), 5, 5, 5), rooted(rings(pair(1, 5, 5, -1)), -1, 5),
		rooted(row(), 70), rooted(row(), 0, 70, -1), rooted(row(), 30, -1, 50), rooted(row(), 30), {S: sized(200), Roots: []int{-1}},
	}
}

// bad are graphs that may not be.
func bad() []api.Graph {
	return []api.Graph{
		{}, {O: []api.Obj{obj(0, 0)}, Roots: []int{0}}, {Roots: []int{-1}}, {Roots: []int{0}},
		{S: api.Schema{T: []api.Type{{Name: "1"}}}}, {S: api.Schema{T: []api.Type{{Name: "a"}, {Name: "a"}}}},
		{S: api.Schema{T: []api.Type{{Name: "a", F: []api.Field{{Name: "o", Kind: 5, To: "b"}}}}}},
		{S: api.Schema{T: []api.Type{{Name: "a", F: []api.Field{{Name: "n", Kind: 6}}}}}},
		rooted(with(row(), func(g *api.Graph) { g.O = append(g.O, pair(8, 80, -1, -1)) }), 0), // nine objects
		rooted(of(abText, obj(-1, 1, lead(-1))), -1), rooted(of(abText, obj(top+1, 1, lead(-1))), top+1), rooted(of(abText, obj(math.MaxInt, 1, lead(-1))), math.MaxInt),
		rooted(of(abText, obj(0, 1, lead(-1)), obj(0, 1, lead(-1))), 0), rooted(of(abText, obj(1, 1, lead(-1)), obj(0, 1, lead(-1))), 0),
		rooted(of(abText, obj(0, -1, lead(-1))), 0), rooted(of(abText, obj(0, 2, lead(-1))), 0), rooted(of(abText, obj(0, math.MinInt)), 0), rooted(of(abText, obj(0, math.MaxInt)), 0),
		rooted(of(abText, obj(0, 1)), 0), rooted(of(abText, obj(0, 1, lead(-1), lead(-1))), 0), rooted(of(abText, obj(0, 0)), 0),
		rooted(of(abText, obj(0, 0, num(128), lead(-1))), 0), rooted(of(abText, obj(0, 0, lead(-1), num(0))), 0), rooted(of(abText, obj(0, 0, api.Val{R: -1}, lead(-1))), 0),
		rooted(of(abText, obj(0, 1, lead(-2))), 0), rooted(of(abText, obj(0, 1, lead(0))), 0), rooted(of(abText, obj(0, 1, lead(1))), 0), rooted(of(abText, obj(0, 1, lead(math.MinInt))), 0),
		rooted(of("a{s:t}", obj(0, 0, text("1234567890123"))), 0),
		of(abText, obj(0, 1, lead(7))), // what is not met may not be, either
		rooted(of(abText), 0), rooted(of(abText), -2), rooted(of(abText), -1, -1, -1, -1), rooted(of(abText), math.MinInt), rooted(of(abText), math.MaxInt),
		rooted(row(), 0, 10, 20, 30), rooted(row(), 1), rooted(row(), 0, 10, -2),
		{S: sized(201), O: []api.Obj{obj(0, 4)}}, // it would have no Sum, if it might be
	}
}

// much are graphs that may be, but of a schema whose text is too long.
func much() []api.Graph {
	long := api.Graph{S: sized(201)}
	held := obj(3, 2, text("a"), text(""), text("123456789012"), text("b"), text("c"))
	return []api.Graph{long, rooted(long, -1), rooted(api.Graph{S: long.S, O: []api.Obj{held}}, 3), {S: sized(228)}}
}

// near are graphs of one kind of which no two are alike: each differs from the first one in one part that is met.
func near() []api.Graph {
	first := rooted(rings(pair(1, 1, 2, 3), pair(2, 2, 2, -1), pair(3, 3, -1, 1)), 1, -1, 3)
	list := []api.Graph{first}
	for _, change := range []func(*api.Graph){
		func(g *api.Graph) { g.O[0].F[1].N++ }, func(g *api.Graph) { g.O[1].F[1].N = -2 }, func(g *api.Graph) { g.O[2].F[1].N += 1 << 40 },
		func(g *api.Graph) { g.O[0].F[2].S = "a" }, func(g *api.Graph) { g.O[1].F[2].S = "A" }, func(g *api.Graph) { g.O[2].F[2].S = "\x00" },
		func(g *api.Graph) { g.O[0].F[0].R = 1 }, func(g *api.Graph) { g.O[0].F[3].R = 2 }, func(g *api.Graph) { g.O[0].F[3].R = -1 }, func(g *api.Graph) { g.O[0].F[0].R, g.O[0].F[3].R = 3, 2 },
		func(g *api.Graph) { g.O[1].F[0].R = 3 }, func(g *api.Graph) { g.O[1].F[0].R = -1 }, func(g *api.Graph) { g.O[1].F[3].R = 2 }, func(g *api.Graph) { g.O[2].F[3].R = -1 },
		func(g *api.Graph) { g.Roots[0] = -1 }, func(g *api.Graph) { g.Roots[0] = 3 }, func(g *api.Graph) { g.Roots[1] = 1 }, func(g *api.Graph) { g.Roots[1] = 2 }, func(g *api.Graph) { g.Roots[2] = -1 }, func(g *api.Graph) { g.Roots[2] = 2 },
		func(g *api.Graph) { g.Roots = g.Roots[:2] }, func(g *api.Graph) { g.Roots = g.Roots[:1] }, func(g *api.Graph) { g.Roots = nil }, func(g *api.Graph) { g.Roots = []int{-1, 1, 3} }, func(g *api.Graph) { g.Roots = []int{3, -1, 1} }, func(g *api.Graph) { g.Roots = []int{1, 3, -1} },
	} {
		list = append(list, with(first, change))
	}
	return list
}

func haveSums() []api.Graph   { return slices.Concat(good(), near()) }
func someGraphs() []api.Graph { return slices.Concat(haveSums(), bad(), much()) }

// The chapter's example, and one that sets something.
func TestExample(t *testing.T) {
	g := rooted(rings(pair(2, 2, -1, -1), pair(5, 5, -1, 2)), 5)
	d, e := Make(g, g)
	if want := (api.Delta{Base: sumOf(g), Roots: []int{0}, L: []api.Item{{}, {From: 1}}}); e != api.OK || !sameOf(d, want) {
		t.Fatal(d, e)
	}
	x, e := Apply(g, d)
	if want := rooted(rings(pair(5, 0, -1, 1), pair(2, 1, -1, -1)), 0); e != api.OK || !graph.Same(x, want) {
		t.Fatal(x, e)
	}
	for _, g := range haveSums() {
		d, e := Make(g, g)
		if e != api.OK || len(d.L) != len(canon.Order(g)) {
			t.Fatalf("Make of %v, and itself, is %v, %d", g, d, e)
		}
		for i, x := range d.L {
			if x.From != i || len(x.Set) != 0 {
				t.Errorf("Make of %v, and itself, is %v", g, d)
			}
		}
		wantApplied(t, g, d, canon.Canon(g), api.OK)
	}
}

// P11.1: Make, by hand. In each case the delta is applied, too.
func TestMake(t *testing.T) {
	five := rooted(rings(pair(2, 2, -1, -1), pair(5, 5, -1, 2)), 5)
	both := rooted(rings(pair(1, 1, 4, 7), pair(4, 4, -1, -1), pair(7, 7, -1, -1)), 1)
	kinds := rooted(of("a{a:i8,b:i16,c:i32,d:i64,e:t}b{o:*b}", obj(3, 0, num(1), num(2), num(3), num(4), text("5")), obj(6, 1, lead(6))), 6, 3)
	bare := rooted(of("a{}b{}", obj(0, 0), obj(1, 1), obj(4, 0)), 4, 1)
	for _, x := range []struct {
		name  string
		a, b  api.Graph
		roots []int
		items []api.Item
	}{
		{"N alone", five, with(five, func(g *api.Graph) { g.O[0].F[1].N = 9 }), []int{0}, []api.Item{item(0, 0), item(1, 0, set(1, num(9)))}},
		{"S alone", five, with(five, func(g *api.Graph) { g.O[1].F[2].S = "z" }), []int{0}, []api.Item{item(0, 0, set(2, text("z"))), item(1, 0)}},
		{"R alone", five, with(five, func(g *api.Graph) { g.O[0].F[0].R = 2 }), []int{0}, []api.Item{item(0, 0), item(1, 0, set(0, lead(1)))}},
		{"R, to none", with(five, func(g *api.Graph) { g.O[0].F[3].R = 5 }), five, []int{0}, []api.Item{item(0, 0), item(1, 0, set(3, lead(-1)))}},
		{"several fields", five, with(five, func(g *api.Graph) { g.O[1].F[0].R, g.O[1].F[1].N = 5, 0 }), []int{0}, []api.Item{item(0, 0, set(0, lead(0)), set(1, num(0))), item(1, 0)}},
		{"fields not side by side", five, with(five, func(g *api.Graph) { g.O[1].F[0].R, g.O[1].F[2].S = 2, "z" }), []int{0}, []api.Item{item(0, 0, set(0, lead(1)), set(2, text("z"))), item(1, 0)}},
		{"all fields", five, with(five, func(g *api.Graph) { g.O[1].F = []api.Val{lead(2), num(-5), text("zz"), lead(-1)} }), []int{0}, []api.Item{item(0, 0, set(0, lead(1)), set(1, num(-5)), set(2, text("zz")), set(3, lead(-1))), item(1, 0)}},
		{"all kinds, the first one", kinds, with(kinds, func(g *api.Graph) { g.O[0].F[0].N = -128 }), []int{0, 1}, []api.Item{item(0, 1), item(1, 0, set(0, num(-128)))}},
		{"all kinds, all", kinds, with(kinds, func(g *api.Graph) {
			g.O[0].F, g.O[1].F = []api.Val{num(0), num(32767), num(0), num(math.MinInt64), text("")}, []api.Val{lead(-1)}
		}), []int{0, 1}, []api.Item{item(0, 1, set(0, lead(-1))), item(1, 0, set(0, num(0)), set(1, num(32767)), set(2, num(0)), set(3, num(math.MinInt64)), set(4, text("")))}},
		{"all kinds, the last ones", kinds, with(kinds, func(g *api.Graph) { g.O[0].F[3].N, g.O[0].F[4].S = 5, "6" }), []int{0, 1}, []api.Item{item(0, 1), item(1, 0, set(3, num(5)), set(4, text("6")))}},
		{"a new object, led to", five, rooted(rings(pair(2, 2, -1, -1), pair(3, 3, 5, 2), pair(5, 5, 3, 2)), 5), []int{0}, []api.Item{item(0, 0, set(0, lead(1))), fresh(0, lead(0), num(3), text(""), lead(2)), item(1, 0)}},
		{"a new object, a root", five, rooted(rings(pair(2, 2, -1, -1), pair(5, 5, -1, 2), pair(8, 8, -1, -1)), 8, 5), []int{0, 1}, []api.Item{fresh(0, lead(-1), num(8), text(""), lead(-1)), item(0, 0), item(1, 0)}},
		{"all new", five, rooted(rings(pair(2, 3, -1, -1), pair(5, 6, -1, 3)), 6), []int{0}, []api.Item{fresh(0, lead(-1), num(5), text(""), lead(1)), fresh(0, lead(-1), num(2), text(""), lead(-1))}},
		{"an object that is gone", five, rooted(rings(pair(5, 5, -1, -1)), 5), []int{0}, []api.Item{item(0, 0, set(3, lead(-1)))}},
		{"all gone", five, rings(), nil, nil},
		{"in both, but met in the first one alone", five, with(five, func(g *api.Graph) { g.O[1].F[3].R = -1 }), []int{0}, []api.Item{item(0, 0, set(3, lead(-1)))}},
		{"in both, but met in the other one alone", rooted(five, 2), five, []int{0}, []api.Item{fresh(0, lead(-1), num(5), text(""), lead(1)), item(0, 0)}},
		{"in both, but met in neither", with(five, func(g *api.Graph) { g.O = append(g.O, pair(9, 9, 2, 5)) }), with(five, func(g *api.Graph) { g.O = append(g.O, pair(8, 9, 9, 9)) }), []int{0}, []api.Item{item(0, 0), item(1, 0)}},
		{"met in another order, by roots", rooted(five, 5, 2), rooted(five, 2, 5), []int{0, 1}, []api.Item{item(1, 0), item(0, 0)}},
		{"met in another order, by Refs", both, with(both, func(g *api.Graph) { g.O[0].F[0].R, g.O[0].F[3].R = 7, 4 }), []int{0}, []api.Item{item(0, 0, set(0, lead(1)), set(3, lead(2))), item(2, 0), item(1, 0)}},
		{"to the same Id at another place", both, rooted(both, 7, 1), []int{0, 1}, []api.Item{item(2, 0), item(0, 0), item(1, 0)}},
		{"to another Id at the same place", five, rooted(rings(pair(2, 2, -1, -1), pair(5, 5, -1, 6), pair(2, 6, -1, -1)), 5), []int{0}, []api.Item{item(0, 0, set(3, lead(1))), fresh(0, lead(-1), num(2), text(""), lead(-1))}},
		{"to another Id at the same place, that was there", rooted(both, 1), rooted(with(both, func(g *api.Graph) { g.O[0].F[0].R = 7 }), 1), []int{0}, []api.Item{item(0, 0, set(0, lead(1))), item(2, 0)}},
		{"to itself, at another place", rooted(rings(pair(4, 4, 4, -1)), 4), rooted(rings(pair(1, 1, -1, -1), pair(4, 4, 4, -1)), 1, 4), []int{0, 1}, []api.Item{fresh(0, lead(-1), num(1), text(""), lead(-1)), item(0, 0)}},
		{"a root more", five, rooted(five, 5, 2), []int{0, 1}, []api.Item{item(0, 0), item(1, 0)}},
		{"a root less", rooted(five, 5, 2), five, []int{0}, []api.Item{item(0, 0), item(1, 0)}},
		{"no root more", five, rooted(five), nil, nil},
		{"roots where none were", rooted(five), five, []int{0}, []api.Item{fresh(0, lead(-1), num(5), text(""), lead(1)), fresh(0, lead(-1), num(2), text(""), lead(-1))}},
		{"roots turned round", rooted(both, 1, 4, 7), rooted(both, 7, 4, 1), []int{0, 1, 2}, []api.Item{item(2, 0), item(1, 0), item(0, 0)}},
		{"roots of -1", rooted(five, -1, 5), rooted(five, 2, -1, -1), []int{0, -1, -1}, []api.Item{item(1, 0)}},
		{"roots of -1 alone", five, rooted(five, -1, -1, -1), []int{-1, -1, -1}, nil},
		{"one root thrice", five, rooted(five, 2, 2, 2), []int{0, 0, 0}, []api.Item{item(1, 0)}},
		{"neither has objects", of(abText), of(abText), nil, nil},
		{"neither has objects, but roots", rooted(of(abText), -1), rooted(of(abText), -1, -1), []int{-1, -1}, nil},
		{"objects where none were", rings(), five, []int{0}, []api.Item{fresh(0, lead(-1), num(5), text(""), lead(1)), fresh(0, lead(-1), num(2), text(""), lead(-1))}},
		{"neither has roots", rooted(five), rooted(both), nil, nil},
		{"types without fields", bare, rooted(of("a{}b{}", obj(1, 1), obj(3, 1), obj(4, 0)), 1, 3, 4), []int{0, 1, 2}, []api.Item{item(1, 1), fresh(1), item(0, 0)}},
		{"eight in a row, from its end", rooted(row(), 70), with(rooted(row(), 70), func(g *api.Graph) { g.O[3].F[0].R = 70 }), []int{0}, []api.Item{item(0, 0), item(1, 0), item(2, 0), item(3, 0), item(4, 0, set(0, lead(0))), item(5, 0), item(6, 0), item(7, 0)}},
		{"four types", rich(), rooted(with(rich(), func(g *api.Graph) { g.O[4].F[1].N, g.O[5].F[0].R = 0, 0 }), top, 8), []int{0, 1}, []api.Item{
			fresh(1, lead(2), lead(3)), item(0, 3, set(1, num(0))), item(4, 0), item(1, 1), item(2, 0), item(3, 2)}},
	} {
		d := api.Delta{Base: sumOf(x.a), Roots: x.roots, L: x.items}
		if got, e := Make(x.a, x.b); e != api.OK || !sameOf(got, d) {
			t.Errorf("%s: Make is %v, %d, not %v", x.name, got, e, d)
		}
		wantMake(t, x.a, x.b)
		wantMake(t, x.b, x.a)
		wantApplied(t, x.a, d, canon.Canon(x.b), api.OK)
	}
}

// P11.1, R2, R4: Make's errors, which one is told, and nothing beside it.
func TestMakeErrors(t *testing.T) {
	is := func(a, b api.Graph, want api.Errno) {
		t.Helper()
		wantMade(t, a, b, api.Delta{}, want)
		wantMake(t, a, b)
	}
	for _, g := range bad() {
		for _, other := range someGraphs() {
			is(g, other, api.ErrArg)
			is(other, g, api.ErrArg)
		}
	}
	for i, s := range []string{"a{}", "a{n:i8}", "a{n:i16}", "a{m:i8}", "b{n:i8}", "a{n:i8}b{}", "b{}a{n:i8}", "a{n:i8,m:i8}", "a{m:i8,n:i8}", "a{n:*a}", "a{n:*a}b{}", "a{n:*b}b{}"} {
		for k, other := range []string{"a{}", "a{n:i8}", "a{n:i16}", "a{m:i8}", "b{n:i8}", "a{n:i8}b{}", "b{}a{n:i8}", "a{n:i8,m:i8}", "a{m:i8,n:i8}", "a{n:*a}", "a{n:*a}b{}", "a{n:*b}b{}"} {
			if i == k {
				wantMade(t, of(s), of(other), api.Delta{Base: sumOf(of(s))}, api.OK)
			} else {
				is(of(s), of(other), api.ErrType)
			}
		}
		for _, g := range much() {
			is(of(s), g, api.ErrType)
			is(g, of(s), api.ErrType)
		}
	}
	for i, a := range much() {
		for k, b := range much() {
			if schema.Same(a.S, b.S) {
				is(a, b, api.ErrLimit)
			} else {
				is(a, b, api.ErrType)
			}
			if i == k {
				other := with(b, func(g *api.Graph) { g.O = []api.Obj{obj(3, 1, make([]api.Val, 5)...)}; g.Roots = nil })
				held := with(a, func(g *api.Graph) { g.O = []api.Obj{obj(3, 2, make([]api.Val, 5)...)}; g.Roots = nil })
				is(held, other, api.ErrType) // ahead of ErrLimit
				is(other, held, api.ErrType)
				is(held, a, api.ErrLimit)
			}
		}
	}
}

// P11.1: an object of the same Id that has another T, met or not met in either graph.
func TestMakeOfOtherTypes(t *testing.T) {
	one := func(t, root int) api.Graph {
		return rooted(of("a{}b{}c{o:*a}", obj(2, 0), obj(5, t), obj(9, 1)), root)
	}
	for _, root := range []int{-1, 2, 5, 9} {
		for _, other := range []int{-1, 2, 5, 9} {
			wantMade(t, one(0, root), one(1, other), api.Delta{}, api.ErrType)
			wantMade(t, one(1, root), one(0, other), api.Delta{}, api.ErrType)
			if _, e := wantMake(t, one(1, root), one(1, other)); e != api.OK {
				t.Error(e)
			}
		}
	}
	// At other places of the lists, and alone.
	a := of("a{}b{}", obj(0, 0), obj(1, 0), obj(2, 0), obj(top, 1))
	wantMade(t, a, of("a{}b{}", obj(top, 0)), api.Delta{}, api.ErrType)
	wantMade(t, of("a{}b{}", obj(top, 0)), a, api.Delta{}, api.ErrType)
	wantMade(t, a, of("a{}b{}", obj(top, 1)), api.Delta{Base: sumOf(a)}, api.OK)
	wantMade(t, a, of("a{}b{}", obj(3, 1), obj(4, 0), obj(5, 0), obj(6, 0)), api.Delta{Base: sumOf(a)}, api.OK)
	wantMade(t, of("a{}b{}", obj(0, 1)), a, api.Delta{}, api.ErrType)
}

// base is a graph of three objects that are met, of two types, and what Apply is tried with.
func base() api.Graph {
	return rooted(of("a{n:i8,o:*a,s:t}b{o:*a}c{}", obj(2, 0, num(3), lead(6), text("x")), obj(4, 1, lead(2)), obj(6, 0, num(5), lead(-1), text("")), obj(8, 2)), 4)
}

// ofBase is a delta of it.
func ofBase(roots []int, list ...api.Item) api.Delta {
	return api.Delta{Base: sumOf(base()), Roots: roots, L: list}
}

// P11.2: Apply, by hand: what is answered if all is well.
func TestApply(t *testing.T) {
	r := func(ids ...int) []int { return ids }
	s := base().S
	g := func(roots []int, list ...api.Obj) api.Graph { return api.Graph{S: s, O: list, Roots: roots} }
	for _, x := range []struct {
		name string
		d    api.Delta
		want api.Graph
	}{
		{"nothing is set", ofBase(r(0), item(0, 1), item(1, 0), item(2, 0)), g(r(0), obj(0, 1, lead(1)), obj(1, 0, num(3), lead(2), text("x")), obj(2, 0, num(5), lead(-1), text("")))},
		{"one is set", ofBase(r(0), item(0, 1), item(1, 0, set(0, num(7))), item(2, 0)), g(r(0), obj(0, 1, lead(1)), obj(1, 0, num(7), lead(2), text("x")), obj(2, 0, num(5), lead(-1), text("")))},
		{"what it was is set", ofBase(r(0), item(0, 1, set(0, lead(1))), item(1, 0, set(0, num(3)), set(1, lead(2)), set(2, text("x"))), item(2, 0, set(1, lead(-1)))), g(r(0), obj(0, 1, lead(1)), obj(1, 0, num(3), lead(2), text("x")), obj(2, 0, num(5), lead(-1), text("")))},
		{"neither objects nor roots", ofBase(nil), g(nil)},
		{"no objects, and most roots", ofBase(r(-1, -1, -1)), g(r(-1, -1, -1))},
		{"others ahead", ofBase(r(0, 1, -1), fresh(2), item(0, 1), item(1, 0), item(2, 0, set(1, lead(3)))), g(r(0, 1, -1), obj(0, 2), obj(1, 1, lead(2)), obj(2, 0, num(3), lead(3), text("x")), obj(3, 0, num(5), lead(3), text("")))},
		{"turned round", ofBase(r(0, 1, 2), item(2, 0), item(1, 0), item(0, 1)), g(r(0, 1, 2), obj(0, 0, num(5), lead(-1), text("")), obj(1, 0, num(3), lead(0), text("x")), obj(2, 1, lead(1)))},
		{"one that leads to what is gone is set", ofBase(r(0), item(0, 1), item(1, 0, set(1, lead(1)))), g(r(0), obj(0, 1, lead(1)), obj(1, 0, num(3), lead(1), text("x")))},
		{"one that leads to what is gone is set to what is new", ofBase(r(0), item(0, 1, set(0, lead(1))), fresh(0, num(-128), lead(0+1), text("123456789012"))), g(r(0), obj(0, 1, lead(1)), obj(1, 0, num(-128), lead(1), text("123456789012")))},
		{"the last one alone", ofBase(r(0), item(2, 0)), g(r(0), obj(0, 0, num(5), lead(-1), text("")))},
		{"all are new", ofBase(r(0, -1, 1), fresh(2), fresh(1, lead(-1))), g(r(0, -1, 1), obj(0, 2), obj(1, 1, lead(-1)))},
		{"eight objects", ofBase(r(0), fresh(0, num(1), lead(1), text("")), fresh(0, num(1), lead(2), text("")), fresh(0, num(1), lead(3), text("")), fresh(0, num(1), lead(4), text("")), fresh(0, num(1), lead(5), text("")), fresh(0, num(1), lead(6), text("")), fresh(0, num(1), lead(7), text("")), item(2, 0)),
			g(r(0), obj(0, 0, num(1), lead(1), text("")), obj(1, 0, num(1), lead(2), text("")), obj(2, 0, num(1), lead(3), text("")), obj(3, 0, num(1), lead(4), text("")), obj(4, 0, num(1), lead(5), text("")), obj(5, 0, num(1), lead(6), text("")), obj(6, 0, num(1), lead(7), text("")), obj(7, 0, num(5), lead(-1), text("")))},
	} {
		if got, e := Apply(base(), x.d); e != api.OK || !graph.Same(got, x.want) {
			t.Errorf("%s: Apply is %v, %d, not %v", x.name, got, e, x.want)
		}
		wantApply(t, base(), x.d)
		wantApply(t, canon.Canon(base()), x.d)
	}
}

// wrong are deltas of base that tell no graph.
func wrong() map[string]api.Delta {
	d := ofBase([]int{0}, item(0, 1), item(1, 0), item(2, 0))
	n := func(id int) api.Item { return fresh(0, num(1), lead(id), text("")) }
	nine := ofBase([]int{0}, n(1), n(2), n(3), n(4), n(5), n(6), n(7), n(8), n(-1))
	list := map[string]api.Delta{
		"nine objects": nine, "nine objects, of a ring": but(nine, func(d *api.Delta) { d.L[8] = n(0) }),
		"four roots": ofBase([]int{0, 0, 0, 0}, item(0, 1), item(1, 0), item(2, 0)), "four roots of -1": ofBase([]int{-1, -1, -1, -1}),
		"roots not in order": ofBase([]int{1, 0}, item(0, 1), item(1, 0), item(2, 0)), "an object that is not met": ofBase([]int{0}, item(0, 1), item(1, 0), item(2, 0), fresh(2)),
		"none is met": ofBase(nil, item(0, 1), item(1, 0), item(2, 0)), "none is met, of roots of -1": ofBase([]int{-1}, item(0, 1), item(1, 0), item(2, 0)),
		"met in another order": ofBase([]int{0}, item(0, 1), item(2, 0), item(1, 0)), "two that are met the other way round": ofBase([]int{0}, item(0, 1, set(0, lead(2))), item(1, 0), item(2, 0, set(1, lead(1)))),
		"what it leads to is gone": ofBase([]int{0}, item(0, 1), item(1, 0)), "what it leads to is gone, first": ofBase([]int{0, 1}, item(0, 1), item(2, 0)),
		"what it leads to is new, and not it": ofBase([]int{0}, item(0, 1), item(1, 0), fresh(0, num(5), lead(-1), text(""))), "what is gone is led to by one of other fields": ofBase([]int{0}, item(0, 1), item(1, 0, set(0, num(1)), set(2, text("")))),
		"-1 with a field that lacks, the last one": ofBase([]int{0}, item(-1, 0, set(0, num(1)), set(1, lead(-1)))), "the first one": ofBase([]int{0}, item(-1, 0, set(1, lead(-1)), set(2, text("")))),
		"one between": ofBase([]int{0}, item(-1, 0, set(0, num(1)), set(2, text("")))), "all fields": ofBase([]int{0}, item(-1, 0)), "one field too many": ofBase([]int{0}, item(-1, 0, set(0, num(1)), set(1, lead(-1)), set(2, text("")), set(3, num(0)))),
		"one twice instead": ofBase([]int{0}, item(-1, 0, set(0, num(1)), set(0, num(1)), set(2, text("")))), "the same ones, turned round": ofBase([]int{0}, item(-1, 1+1, set(0, num(0)))),
		"-1, falling": ofBase([]int{0}, item(-1, 0, set(0, num(1)), set(2, text("")), set(1, lead(-1)))), "a field of a type without fields": ofBase([]int{0}, fresh(2, num(0))),
		"-1 with the last one twice": ofBase([]int{0}, item(-1, 0, set(0, num(1)), set(1, lead(-1)), set(2, text("")), set(2, text("")))),
	}
	for name, from := range map[string]int{"-2": -2, "-3": -3, "one more than there are": 3, "of what is not met": 4, "least": math.MinInt, "most": math.MaxInt, "an Id": 6, "a place twice": 1} {
		list["From "+name] = but(d, func(d *api.Delta) { d.L[2].From = from })
		list["From, first, "+name] = but(ofBase([]int{0}, item(0, 1, set(0, lead(-1)))), func(d *api.Delta) { d.L[0].From = from })
		list["From, all set, "+name] = but(d, func(d *api.Delta) { d.L[2] = fresh(0, num(5), lead(-1), text("")); d.L[2].From = from })
	}
	delete(list, "From, first, a place twice") // it is another type's there, and told below
	for name, kind := range map[string]int{"-1": -1, "of no type": 3, "another one": 2, "least": math.MinInt, "most": math.MaxInt, "the one's ahead": 1} {
		list["T "+name] = but(d, func(d *api.Delta) { d.L[2].T = kind })
		list["T of a new one "+name] = but(d, func(d *api.Delta) { d.L[2] = fresh(kind, num(5), lead(-1), text("")) })
		list["T, with nothing set, of a new one "+name] = but(d, func(d *api.Delta) { d.L[2] = item(-1, kind) })
	}
	for name, cells := range map[string][]api.Cell{
		"below 0": {set(-1, num(1))}, "one more than there are": {set(3, num(1))}, "least": {set(math.MinInt, num(1))}, "most": {set(math.MaxInt, num(1))},
		"twice": {set(0, num(1)), set(0, num(1))}, "twice, the same": {set(2, text("x")), set(2, text("x"))}, "falling": {set(1, lead(2)), set(0, num(1))}, "the last one falling": {set(0, num(1)), set(2, text("")), set(1, lead(2))},
		"below 0 ahead of others": {set(-1, num(1)), set(0, num(1))}, "one more behind others": {set(0, num(1)), set(2, text("")), set(3, num(1))},
		"a value that does not fit": {set(0, num(128))}, "a number below": {set(0, num(-129))}, "a text as a number": {set(0, text("a"))}, "a Ref as a number": {set(0, lead(1))}, "a text of 13 bytes": {set(2, text("1234567890123"))}, "a number as a text": {set(2, num(1))},
		"a Ref of -2": {set(1, lead(-2))}, "a Ref of -2, -3": {set(1, lead(-3))}, "a Ref to no item": {set(1, lead(3))}, "a Ref to another type": {set(1, lead(0))}, "a Ref with a number": {set(1, api.Val{N: 1, R: 2})}, "a Ref with a text": {set(1, api.Val{S: "a", R: 2})}, "a Ref above all Ids": {set(1, lead(top+1))},
		"a Ref to itself, so that one is not met": {set(1, lead(1))}, "a Ref to none, so that one is not met": {set(1, lead(-1))}, "a Ref least": {set(1, lead(math.MinInt))}, "a Ref most": {set(1, lead(math.MaxInt))},
	} {
		list["Set "+name] = but(d, func(d *api.Delta) { d.L[1].Set = cells })
	}
	for name, id := range map[string]int{"-2": -2, "one more than there are": 3, "least": math.MinInt, "most": math.MaxInt, "an Id": 4} {
		list["root "+name] = but(d, func(d *api.Delta) { d.Roots = append(d.Roots, id) })
		list["root, alone, "+name] = ofBase([]int{id})
	}
	return list
}

// P11.2, R2, R4: Apply's errors, which one is told, and a zero graph beside it.
func TestApplyErrors(t *testing.T) {
	is := func(name string, g api.Graph, d api.Delta, want api.Errno) {
		t.Helper()
		if x, e := Apply(g, d); e != want || !graph.Same(x, api.Graph{}) {
			t.Errorf("%s: Apply is %v, %d, not %d", name, x, e, want)
		}
		wantApply(t, g, d)
	}
	fine := ofBase([]int{0}, item(0, 1), item(1, 0), item(2, 0))
	if wantApply(t, base(), fine) != api.OK {
		t.Fatal(fine)
	}
	for name, d := range wrong() {
		is(name, base(), d, api.ErrForm)
		is(name, canon.Canon(base()), d, api.ErrForm)
		for bit := range 32 {
			x := d
			x.Base ^= 1 << bit
			is(name+", of another base", base(), x, api.ErrBase)
		}
		for _, g := range bad() {
			is(name+", of what may not be", g, d, api.ErrArg)
		}
		for _, g := range much() {
			is(name+", of what has no Sum", g, d, api.ErrLimit)
		}
		for _, g := range haveSums() {
			is(name+", of another one", g, d, api.ErrBase)
		}
	}
	for bit := range 32 {
		x := fine
		x.Base ^= 1 << bit
		is("another base", base(), x, api.ErrBase)
	}
	for _, g := range bad() {
		for _, d := range []api.Delta{{}, fine, {Base: 1}} {
			is("may not be", g, d, api.ErrArg)
		}
	}
	for _, g := range much() {
		for _, d := range []api.Delta{{}, fine, {Base: 1}} {
			is("has no Sum", g, d, api.ErrLimit)
		}
	}
	is("zero", base(), api.Delta{}, api.ErrBase)
	is("From of another type", base(), ofBase([]int{0}, item(1, 1, set(0, lead(-1)))), api.ErrForm)
	is("From twice, both all set", base(), ofBase([]int{0, 1}, item(1, 0, set(0, num(1)), set(1, lead(-1)), set(2, text(""))), item(1, 0, set(0, num(2)), set(1, lead(-1)), set(2, text("")))), api.ErrForm)
	is("From twice, not side by side", base(), ofBase([]int{0, 1, 2}, item(2, 0), item(0, 1, set(0, lead(0))), item(2, 0)), api.ErrForm)
	is("a graph without objects: From 0", of("a{}"), api.Delta{Base: sumOf(of("a{}")), Roots: []int{0}, L: []api.Item{item(0, 0)}}, api.ErrForm)
}

// P11.2: -1 may be there twice, and more often.
func TestNewTwice(t *testing.T) {
	d := ofBase([]int{0, 1, 2}, fresh(2), fresh(2), fresh(2))
	wantApplied(t, base(), d, rooted(of("a{n:i8,o:*a,s:t}b{o:*a}c{}", obj(0, 2), obj(1, 2), obj(2, 2)), 0, 1, 2), api.OK)
}

// P11.2: it is the Sum alone that is asked, also of a graph that happens to have the same one.
func TestSameSum(t *testing.T) {
	a := rooted(of("a{s:t,o:*a}", obj(3, 0, text("\x00\x00\x00\x00\x00"), lead(-1))), 3)
	b := rooted(of("a{s:t,o:*a}", obj(3, 0, text("\x41\x06\x71\xdb\x01"), lead(-1))), 3) // the sum's polynomial, as bytes
	if sumOf(a) != sumOf(b) || canon.Iso(a, b) {
		t.Fatal(sumOf(a), sumOf(b))
	}
	d, e := wantMake(t, a, rooted(a, 3, 3))
	if e != api.OK {
		t.Fatal(e)
	}
	wantApplied(t, b, d, canon.Canon(rooted(b, 3, 3)), api.OK)
}

// few are the items of which TestAllSmall makes deltas.
func few() []api.Item {
	var list []api.Item
	for _, from := range []int{-2, -1, 0, 1, 2} {
		for _, kind := range []int{0, 1} {
			for _, cells := range [][]api.Cell{
				nil, {set(0, num(5))}, {set(1, lead(0))}, {set(1, lead(1))}, {set(1, lead(-1))}, {set(0, num(5)), set(1, lead(-1))}, {set(0, num(6)), set(1, lead(1))}, {set(0, num(6)), set(1, lead(0))},
				{set(1, lead(1)), set(0, num(5))}, {set(0, num(5)), set(0, num(5))}, {set(-1, num(5))}, {set(2, lead(1))},
			} {
				list = append(list, item(from, kind, cells...))
			}
		}
	}
	return list
}

// P11.2, over all deltas of up to two of some items.
func TestAllSmall(t *testing.T) {
	g := rooted(of("a{n:i8,o:*a}b{}", obj(3, 0, num(1), lead(8)), obj(8, 0, num(2), lead(3)), obj(9, 1)), 8)
	sum, items, count := sumOf(g), few(), map[api.Errno]int{}
	try := func(roots []int, list ...api.Item) {
		count[wantApply(t, g, api.Delta{Base: sum, Roots: roots, L: list})]++
	}
	for _, roots := range [][]int{nil, {0}, {1}, {0, 1}, {1, 0}, {-1, 0}} {
		try(roots)
		for i, x := range items {
			try(roots, x)
			for k, y := range items {
				if len(roots) == 1 && roots[0] == 0 || (i+k)%5 == 0 {
					try(roots, x, y)
				}
			}
		}
	}
	if count[api.OK] < 100 || count[api.ErrForm] < 10000 {
		t.Error("too few deltas were tried:", count)
	}
}

// wantFollows is P11.3 of a delta from a to b: of what is alike a it makes b's Canon.
func wantFollows(t testing.TB, next func(int) int, a, b api.Graph, d api.Delta) {
	t.Helper()
	want := canon.Canon(b)
	for _, x := range []api.Graph{a, canon.Canon(a), graph.Sweep(a), byOtherIds(next, a)} {
		wantApplied(t, x, d, want, api.OK)
		wantApply(t, x, d)
	}
}

// P11.1 to P11.3, of many pairs that share Ids in part, and of two deltas one behind the other.
func TestAgainstTheWords(t *testing.T) {
	next, froms, sets := chance(111), map[string]int{}, map[int]int{}
	for range 6000 {
		a := byChance(next)
		b := laterOf(next, a)
		c := laterOf(next, b)
		if !graph.May(b) || !graph.May(c) {
			t.Fatal("may not be:", b, c)
		}
		d, e := wantMake(t, a, b)
		if e != api.OK {
			t.Fatalf("Make of %v and %v: %d", a, b, e)
		}
		wantFollows(t, next, a, b, d)
		for i, x := range d.L {
			switch {
			case x.From == -1:
				froms["new"]++
			case x.From == i:
				froms["there"]++
			default:
				froms["elsewhere"]++
			}
			sets[len(x.Set)]++
		}
		d2, e := wantMake(t, b, c)
		if e != api.OK {
			t.Fatal(e)
		}
		then, _ := Apply(byOtherIds(next, a), d)
		wantApplied(t, then, d2, canon.Canon(c), api.OK)
		back, e := wantMake(t, c, a)
		if e != api.OK && e != api.ErrType {
			t.Fatal(e)
		}
		if e == api.OK {
			now, _ := Apply(then, d2)
			wantApplied(t, now, back, canon.Canon(a), api.OK)
		}
	}
	for _, name := range []string{"new", "there", "elsewhere"} {
		if froms[name] < 1000 {
			t.Error("too few items were tried:", name, froms)
		}
	}
	for n := range 6 {
		if sets[n] < 100 {
			t.Error("too few items were tried, by what they set:", sets)
		}
	}
}

// P11.1 to P11.3, of graphs of one schema that know nothing of one another: some of their Ids are the same.
func TestOfOthers(t *testing.T) {
	next, count := chance(112), map[api.Errno]int{}
	for i := range 12000 {
		s := texts()[i%len(texts())]
		a, b := byChanceOf(next, s), byChanceOf(next, s)
		d, e := wantMake(t, a, b)
		count[e]++
		if e != api.OK {
			continue
		}
		wantFollows(t, next, a, b, d)
		if !canon.Iso(a, b) {
			wantApplied(t, b, d, api.Graph{}, api.ErrBase)
		}
	}
	if count[api.OK] < 4000 || count[api.ErrType] < 2000 {
		t.Error("too few pairs were tried:", count)
	}
}

// P11.3: from each of some graphs to each, applied to each.
func TestToAnythingElse(t *testing.T) {
	next, list := chance(113), near()
	var alike []api.Graph
	for _, g := range list {
		alike = append(alike, byOtherIds(next, g))
	}
	for i, a := range list {
		for j, b := range list {
			d, e := wantMake(t, a, b)
			if e != api.OK {
				t.Fatalf("Make of %v and %v: %d", a, b, e)
			}
			for k := range list {
				want, wantE := api.Graph{}, api.ErrBase
				if k == i {
					want, wantE = canon.Canon(list[j]), api.OK
				}
				wantApplied(t, list[k], d, want, wantE)
				wantApplied(t, alike[k], d, want, wantE)
			}
		}
	}
	for _, a := range good() {
		for _, b := range good() {
			d, e := wantMake(t, a, b)
			if e != api.OK {
				continue
			}
			for _, g := range haveSums() {
				if canon.Iso(g, a) {
					wantApplied(t, g, d, canon.Canon(b), api.OK)
				} else {
					wantApplied(t, g, d, api.Graph{}, api.ErrBase)
				}
			}
		}
	}
}

// P11.1: nothing is set in vain: with one less, another graph is made, or none.
func TestNothingInVain(t *testing.T) {
	next, tried := chance(114), 0
	for range 3000 {
		a := byChance(next)
		b := laterOf(next, a)
		d, e := Make(a, b)
		if e != api.OK {
			t.Fatal(e)
		}
		for i := range d.L {
			for k := range d.L[i].Set {
				x := but(d, func(d *api.Delta) { d.L[i].Set = slices.Delete(d.L[i].Set, k, k+1) })
				if g, e := Apply(a, x); e != api.ErrForm && (e != api.OK || graph.Same(g, canon.Canon(b))) {
					t.Fatalf("%v, from %v to %v, makes the same as %v", x, a, b, d)
				}
				tried++
			}
		}
	}
	if tried < 3000 {
		t.Error("too few were tried:", tried)
	}
}

// spot changes one part of a delta, most times.
func spot(next func(int) int, d *api.Delta) {
	few := []int{-2, -1, 0, 1, 2, 3, 5, 8, 128, top, top + 1, math.MinInt, math.MaxInt}
	n := few[next(3+next(len(few)-2))]
	if len(d.L) == 0 || next(8) == 0 {
		d.Roots = append(d.Roots, n)
		return
	}
	i := next(len(d.L))
	x := &d.L[i]
	switch next(10) {
	case 0, 1:
		x.From = n
	case 2:
		x.T = n
	case 3:
		x.Set = append(x.Set, set(n, []api.Val{num(1), lead(-1), text("a")}[next(3)]))
	case 4:
		x.Set = x.Set[:len(x.Set)/2]
	case 5:
		k := next(len(d.L))
		d.L[i], d.L[k] = d.L[k], d.L[i]
	case 6:
		d.L = slices.Delete(d.L, i, i+1)
	case 7:
		d.L = append(d.L, d.L[i])
	default:
		if len(x.Set) > 0 {
			c := &x.Set[next(len(x.Set))]
			c.V = []api.Val{num(n), lead(n), text("a"), text("1234567890123"), c.V}[next(5)]
			c.F = []int{c.F, c.F, c.F, n, c.F + 1}[next(5)]
		}
	}
}

// P11.2: Apply of deltas that were changed in some parts, against the words.
func TestApplyAgainstTheWords(t *testing.T) {
	next, count := chance(115), map[api.Errno]int{}
	for range 30000 {
		a := byChance(next)
		d, e := Make(a, laterOf(next, a))
		if e != api.OK {
			t.Fatal(e)
		}
		for range 1 + next(2) {
			spot(next, &d)
		}
		if next(20) == 0 {
			d.Base += uint32(next(2))
		}
		e = wantApply(t, a, d)
		count[e]++
		if e == api.OK {
			g, _ := Apply(a, d)
			if again := canon.Canon(g); !graph.May(g) || !graph.Same(again, g) {
				t.Fatalf("%v, of %v, makes %v, which is not its own Canon", d, a, g)
			}
		}
	}
	if count[api.OK] < 3000 || count[api.ErrForm] < 10000 || count[api.ErrBase] < 300 {
		t.Error("too few deltas were tried:", count)
	}
}

// others are deltas of which no two are the same.
func others() []api.Delta {
	first := api.Delta{Base: 7, Roots: []int{0, -1, 1}, L: []api.Item{item(1, 0, set(0, num(3)), set(2, text("a"))), item(-1, 1), item(0, 0, set(1, lead(2)))}}
	list := []api.Delta{first, {}, {Base: 7}, {Roots: []int{0}}, {Roots: []int{-1}}, {L: []api.Item{{}}}, {L: []api.Item{{}, {}}}, {L: []api.Item{{Set: []api.Cell{{}}}}}}
	for _, change := range []func(*api.Delta){
		func(d *api.Delta) { d.Base = 8 }, func(d *api.Delta) { d.Base = 0 }, func(d *api.Delta) { d.Base |= 1 << 31 },
		func(d *api.Delta) { d.Roots[0] = 2 }, func(d *api.Delta) { d.Roots[1] = 0 }, func(d *api.Delta) { d.Roots[2] = -1 }, func(d *api.Delta) { d.Roots = d.Roots[:2] }, func(d *api.Delta) { d.Roots = append(d.Roots, 1) }, func(d *api.Delta) { d.Roots = nil }, func(d *api.Delta) { d.Roots = d.Roots[1:] }, func(d *api.Delta) { slices.Reverse(d.Roots) },
		func(d *api.Delta) { d.L = d.L[:2] }, func(d *api.Delta) { d.L = d.L[1:] }, func(d *api.Delta) { d.L = nil }, func(d *api.Delta) { d.L = append(d.L, api.Item{}) }, func(d *api.Delta) { slices.Reverse(d.L) },
		func(d *api.Delta) { d.L[0].From = 2 }, func(d *api.Delta) { d.L[1].From = 0 }, func(d *api.Delta) { d.L[2].From = math.MinInt }, func(d *api.Delta) { d.L[0].T = 1 }, func(d *api.Delta) { d.L[1].T = 0 }, func(d *api.Delta) { d.L[2].T = -1 },
		func(d *api.Delta) { d.L[0].Set[0].F = 1 }, func(d *api.Delta) { d.L[0].Set[1].F = 1 }, func(d *api.Delta) { d.L[2].Set[0].F = 0 },
		func(d *api.Delta) { d.L[0].Set[0].V.N = 4 }, func(d *api.Delta) { d.L[0].Set[0].V.S = "a" }, func(d *api.Delta) { d.L[0].Set[0].V.R = 1 }, func(d *api.Delta) { d.L[0].Set[1].V.S = "A" }, func(d *api.Delta) { d.L[0].Set[1].V.S = "" }, func(d *api.Delta) { d.L[2].Set[0].V.R = -1 }, func(d *api.Delta) { d.L[2].Set[0].V.N = 2 },
		func(d *api.Delta) { d.L[0].Set = d.L[0].Set[:1] }, func(d *api.Delta) { d.L[0].Set = d.L[0].Set[1:] }, func(d *api.Delta) { d.L[0].Set = nil }, func(d *api.Delta) { slices.Reverse(d.L[0].Set) }, func(d *api.Delta) { d.L[1].Set = []api.Cell{{}} }, func(d *api.Delta) { d.L[2].Set = append(d.L[2].Set, set(2, num(0))) },
	} {
		list = append(list, but(first, change))
	}
	return list
}

// P11.1: Same, of deltas that differ in one part alone, and of lists of other lengths.
func TestSame(t *testing.T) {
	for i, a := range others() {
		for k, b := range others() {
			wantSame(t, a, b, i == k)
			if sameOf(a, b) != (i == k) {
				t.Fatal(i, k)
			}
		}
		wantSame(t, a, a, true)
		wantSame(t, a, copyOf(a), true)
	}
	next, count := chance(116), map[bool]int{}
	for range 10000 {
		a := byChance(next)
		d, _ := Make(a, laterOf(next, a))
		x := copyOf(d)
		spot(next, &x)
		count[sameOf(d, x)]++
		wantSame(t, d, x, sameOf(d, x))
	}
	if count[true] < 500 || count[false] < 5000 {
		t.Error("too few pairs were tried:", count)
	}
}

// R6: lists that are nil, or empty.
func TestEmptyLists(t *testing.T) {
	empty := api.Delta{Roots: []int{}, L: []api.Item{{Set: []api.Cell{}}}}
	null := api.Delta{L: []api.Item{{}}}
	wantSame(t, empty, null, true)
	wantSame(t, api.Delta{Roots: []int{}, L: []api.Item{}}, api.Delta{}, true)
	wantSame(t, empty, api.Delta{L: []api.Item{}}, false)
	full := api.Graph{S: api.Schema{T: []api.Type{{Name: "a", F: []api.Field{}}}}, O: []api.Obj{{Id: 3, F: []api.Val{}}}, Roots: []int{}}
	bare := api.Graph{S: api.Schema{T: []api.Type{{Name: "a"}}}, O: []api.Obj{{Id: 3}}}
	for _, ids := range [][]int{nil, {}, {3}, {-1, 3}} {
		for _, other := range [][]int{nil, {}, {3}, {3, -1}} {
			want, e := wantMake(t, rooted(full, ids...), rooted(full, other...))
			if e != api.OK {
				t.Fatal(e)
			}
			wantMade(t, rooted(bare, ids...), rooted(bare, other...), want, api.OK)
			wantMade(t, rooted(full, ids...), rooted(bare, other...), want, api.OK)
			wantMade(t, rooted(bare, ids...), rooted(full, other...), want, api.OK)
			lists := but(want, func(d *api.Delta) {
				d.Roots = append([]int{}, d.Roots...)
				d.L = append([]api.Item{}, d.L...)
				for i := range d.L {
					d.L[i].Set = []api.Cell{}
				}
			})
			for _, g := range []api.Graph{rooted(full, ids...), rooted(bare, ids...)} {
				wantApplied(t, g, want, canon.Canon(rooted(bare, other...)), api.OK)
				wantApplied(t, g, lists, canon.Canon(rooted(bare, other...)), api.OK)
			}
		}
	}
}

// P1, R1: much of everything is taken, and ends soon.
func TestLong(t *testing.T) {
	const count = 1 << 18
	long := strings.Repeat("a", 1<<20)
	chain := rings()
	for i := range count {
		chain.O = append(chain.O, pair(0, i, i+1, count-i))
	}
	for _, g := range []api.Graph{
		rooted(chain, 0, 1, count-1),
		rooted(row(), make([]int, count)...),
		rooted(of("a{}"), slices.Repeat([]int{-1}, count)...),
		{S: api.Schema{T: slices.Repeat([]api.Type{{Name: "a"}}, count)}},
		{S: api.Schema{T: []api.Type{{Name: "a", F: slices.Repeat([]api.Field{{Name: "n"}}, count)}}}},
		{S: api.Schema{T: []api.Type{{Name: long}}}},
		rooted(of("a{}", obj(0, 0, make([]api.Val, count)...)), 0),
		rooted(of("a{s:t}", obj(0, 0, text(long))), 0),
	} {
		wantMade(t, g, g, api.Delta{}, api.ErrArg)
		wantMade(t, g, row(), api.Delta{}, api.ErrArg)
		wantMade(t, row(), g, api.Delta{}, api.ErrArg)
		wantApplied(t, g, api.Delta{}, api.Graph{}, api.ErrArg)
	}
	many := make([]api.Item, count)
	for i := range many {
		many[i] = item(i, 0)
	}
	cells := make([]api.Cell, count)
	for i := range cells {
		cells[i] = set(i, num(0))
	}
	for _, d := range []api.Delta{
		ofBase([]int{0}, many...), ofBase([]int{0}, slices.Repeat([]api.Item{fresh(2)}, count)...), ofBase([]int{0}, slices.Repeat([]api.Item{item(2, 0)}, count)...),
		ofBase([]int{0}, slices.Repeat([]api.Item{fresh(0, num(0), lead(count-1), text(long))}, count)...),
		ofBase([]int{0}, item(-1, 0, cells...)), ofBase([]int{0}, item(0, 1, cells...)), ofBase([]int{0}, item(-1, 2, make([]api.Cell, count)...)),
		ofBase(make([]int, count), item(2, 0)), ofBase(slices.Repeat([]int{-1}, count)), ofBase([]int{0}, fresh(0, num(0), lead(-1), text(long))),
	} {
		wantApplied(t, base(), d, api.Graph{}, api.ErrForm)
		wantSame(t, d, copyOf(d), true)
		wantSame(t, d, ofBase([]int{0}), false)
		d.Base++
		wantApplied(t, base(), d, api.Graph{}, api.ErrBase)
	}
}

// roomy has room behind a list, with something in it.
func roomy[T any](list []T, behind T) []T {
	return append(slices.Clone(list), behind, behind, behind)[:len(list)]
}

func roomyCopy(g api.Graph) api.Graph {
	x := api.Graph{S: api.Schema{T: roomy(g.S.T, api.Type{Name: "z"})}, O: roomy(g.O, obj(99, 99)), Roots: roomy(g.Roots, 99)}
	for i := range x.S.T {
		x.S.T[i].F = roomy(x.S.T[i].F, api.Field{Name: "z"})
	}
	for i := range x.O {
		x.O[i].F = roomy(x.O[i].F, num(99))
	}
	return x
}

func roomyDelta(d api.Delta) api.Delta {
	x := api.Delta{Base: d.Base, Roots: roomy(d.Roots, 99), L: roomy(d.L, item(99, 99))}
	for i := range x.L {
		x.L[i].Set = roomy(x.L[i].Set, set(99, num(99)))
	}
	return x
}

// withRoom is g, with all the room behind its lists.
func withRoom(g api.Graph) api.Graph {
	x := api.Graph{S: api.Schema{T: slices.Clone(g.S.T[:cap(g.S.T)])}, O: slices.Clone(g.O[:cap(g.O)]), Roots: g.Roots[:cap(g.Roots)]}
	for i := range x.S.T {
		x.S.T[i].F = x.S.T[i].F[:cap(x.S.T[i].F)]
	}
	for i := range x.O {
		x.O[i].F = x.O[i].F[:cap(x.O[i].F)]
	}
	return x
}

func withRoomOf(d api.Delta) api.Delta {
	x := api.Delta{Base: d.Base, Roots: d.Roots[:cap(d.Roots)], L: slices.Clone(d.L[:cap(d.L)])}
	for i := range x.L {
		x.L[i].Set = x.L[i].Set[:cap(x.L[i].Set)]
	}
	return x
}

// spoil writes over all of a graph, and the room behind it.
func spoil(g api.Graph) {
	for _, t := range g.S.T[:cap(g.S.T)] {
		fill(t.F, api.Field{Name: "spoilt", Kind: 77})
	}
	for _, o := range g.O[:cap(g.O)] {
		fill(o.F, api.Val{N: 77, S: "spoilt", R: 77})
	}
	fill(g.S.T, api.Type{Name: "spoilt"})
	fill(g.O, obj(77, 77))
	fill(g.Roots, 77)
}

func spoilDelta(d api.Delta) {
	for _, x := range d.L[:cap(d.L)] {
		fill(x.Set, set(77, api.Val{N: 77, S: "spoilt", R: 77}))
	}
	fill(d.L, item(77, 77))
	fill(d.Roots, 77)
}

func fill[T any](list []T, x T) {
	list = list[:cap(list)]
	for i := range list {
		list[i] = x
	}
}

// R3: what is handed in stays as it was, also behind its lists' ends, and changes of it change no answer.
func TestHandedInStays(t *testing.T) {
	next := chance(117)
	list := someGraphs()
	for range 300 {
		list = append(list, byChance(next))
	}
	for _, a := range list {
		b := a
		if graph.May(a) {
			b = laterOf(next, a)
		}
		want, wantE := makeOf(a, b)
		x, y := roomyCopy(a), roomyCopy(b)
		wasX, wasY := clone(withRoom(x)), clone(withRoom(y))
		d, e := Make(x, y)
		if !graph.Same(withRoom(x), wasX) || !graph.Same(withRoom(y), wasY) {
			t.Fatalf("%v and %v became %v and %v", a, b, x, y)
		}
		spoil(x)
		spoil(y)
		if e != wantE || !sameOf(d, want) {
			t.Fatalf("Make of %v and %v changes with them: %v, %d", a, b, d, e)
		}
		for _, was := range []api.Delta{want, but(want, func(d *api.Delta) { spot(next, d) })} {
			made, madeE := applyOf(a, was)
			g, d := roomyCopy(a), roomyDelta(was)
			wasG, wasD := clone(withRoom(g)), copyOf(withRoomOf(d))
			got, e := Apply(g, d)
			Same(d, d)
			Same(d, was)
			if !graph.Same(withRoom(g), wasG) || !sameOf(withRoomOf(d), wasD) {
				t.Fatalf("%v and %v became %v and %v", a, was, g, d)
			}
			spoil(g)
			spoilDelta(d)
			if e != madeE || !graph.Same(got, made) {
				t.Fatalf("Apply of %v and %v changes with them: %v, %d", a, was, got, e)
			}
		}
	}
}

// R3: what is answered is the caller's own, and no two lists of one answer share memory.
func TestAnswersAreOnesOwn(t *testing.T) {
	next := chance(118)
	for i := range 600 {
		a := byChance(next)
		b := laterOf(next, a)
		if i%2 == 0 {
			a = rooted(of(a.S.T[0].Name + "{n:i8,s:t}")) // so that all are new
			b = rooted(with(a, func(g *api.Graph) { g.O = []api.Obj{obj(0, 0, num(1), text("a")), obj(1, 0, num(1), text("a"))} }), 0, 1)
		}
		was, was2 := clone(a), clone(b)
		want, _ := makeOf(a, b)
		d, _ := Make(a, b)
		other, _ := Make(a, b)
		g, _ := Apply(a, d)
		again, _ := Apply(a, d)
		spoilDelta(d)
		spoil(g)
		if !graph.Same(a, was) || !graph.Same(b, was2) || !sameOf(other, want) || !graph.Same(again, canon.Canon(b)) {
			t.Fatalf("an answer of %v and %v shares memory", was, was2)
		}
		for i := range other.L {
			fill(other.L[i].Set, set(77, num(77)))
			other.L[i].Set = want.L[i].Set
			if !sameOf(other, want) {
				t.Fatalf("two lists of Make of %v and %v share memory", a, b)
			}
		}
		made := canon.Canon(b)
		for i := range again.O {
			fill(again.O[i].F, num(77))
			again.O[i].F = made.O[i].F
			if !graph.Same(again, made) {
				t.Fatalf("two lists of Apply of %v and %v share memory", a, want)
			}
		}
		for i := range again.S.T {
			fill(again.S.T[i].F, api.Field{Name: "spoilt"})
			again.S.T[i].F = made.S.T[i].F
			if !graph.Same(again, made) {
				t.Fatalf("two lists of Apply of %v and %v share memory", a, want)
			}
		}
		wantMake(t, a, b)
	}
}

// R3: also if lists of one that was handed in share memory, those of the answer share none.
func TestListsThatWereShared(t *testing.T) {
	one := []api.Cell{set(0, num(7)), set(1, lead(-1)), set(2, text("a"))}
	d := ofBase([]int{0, 1, 2}, item(-1, 0, one...), item(-1, 0, one...), item(1, 0, one...))
	g, e := Apply(base(), d)
	was := clone(g)
	if e != api.OK || len(g.O) != 3 {
		t.Fatal(g, e)
	}
	for i := range g.O {
		fill(g.O[i].F, num(77))
		g.O[i].F = was.O[i].F
		if !graph.Same(g, was) {
			t.Fatal("two lists share memory:", g)
		}
	}
	if !sameOf(d, ofBase([]int{0, 1, 2}, item(-1, 0, set(0, num(7)), set(1, lead(-1)), set(2, text("a"))), item(-1, 0, one...), item(1, 0, one...))) {
		t.Fatal("the delta changes with its answer:", d)
	}
	values := []api.Val{lead(-1), num(1), text("a"), lead(-1)}
	a, b := rings(), rooted(rings(obj(0, 0, values...), obj(1, 0, values...)), 1, 0)
	made, _ := Make(a, b)
	fill(made.L[0].Set, set(77, num(77)))
	if want, _ := makeOf(a, b); !sameOf(api.Delta{L: made.L[1:]}, api.Delta{L: want.L[1:]}) {
		t.Fatal("two lists share memory:", made)
	}
}

// borrowed is a text that lies in bytes that can still be changed.
func borrowed(s string) (string, []byte) {
	b := []byte(s + " ")
	return unsafe.String(&b[0], len(s)), b
}

// lent is g with borrowed texts, and what they lie in.
func lent(g api.Graph) (api.Graph, [][]byte) {
	x := clone(g)
	var all [][]byte
	lend := func(s *string) {
		text, b := borrowed(*s)
		*s, all = text, append(all, b)
	}
	for i := range x.S.T {
		lend(&x.S.T[i].Name)
		for k := range x.S.T[i].F {
			lend(&x.S.T[i].F[k].Name)
			lend(&x.S.T[i].F[k].To)
		}
	}
	for _, o := range x.O {
		for k := range o.F {
			lend(&o.F[k].S)
		}
	}
	return x, all
}

// R3: nothing of a text that was handed in is kept.
func TestTextsAreNotKept(t *testing.T) {
	a := rich()
	b := with(a, func(g *api.Graph) { g.O[0].F[2].S, g.O[3].F[2].S = "new", "12345678901" })
	b = rooted(with(b, func(g *api.Graph) {
		g.O = append(g.O, obj(top-1, 0, num(0), lead(-1), text("newer")))
		g.O[5], g.O[6] = g.O[6], g.O[5]
	}), 8, 3, top-1)
	x, lentX := lent(a)
	y, lentY := lent(b)
	want, e := wantMake(t, a, b)
	d, _ := Make(x, y)
	if e != api.OK || len(want.L[2].Set) != 3 {
		t.Fatal(want, e)
	}
	for _, b := range append(lentX, lentY...) {
		fill(b, '?')
	}
	if !sameOf(d, want) {
		t.Fatal("Make keeps a text:", d)
	}
	x, lentX = lent(a)
	for i := range d.L {
		for k := range d.L[i].Set {
			s, b := borrowed(d.L[i].Set[k].V.S)
			d.L[i].Set[k].V.S = s
			lentX = append(lentX, b)
		}
	}
	got, e := Apply(x, d)
	for _, b := range lentX {
		fill(b, '?')
	}
	if e != api.OK || !graph.Same(got, canon.Canon(b)) {
		t.Fatal("Apply keeps a text:", got)
	}
}

// R5: what is answered does not hang on what was asked before.
func TestAskedAgain(t *testing.T) {
	list := someGraphs()
	for i, a := range list {
		b := list[(i+1)%len(list)]
		want, wantE := makeOf(a, b)
		for range 2 {
			wantMade(t, a, b, want, wantE)
			wantApply(t, a, want)
			Make(b, list[len(list)-1-i])
			Apply(b, want)
			wantApply(t, base(), ofBase([]int{0}, item(2, 0)))
		}
	}
}

func FuzzDelta(f *testing.F) {
	for seed := range uint64(20) {
		f.Add(seed, 0, 0, 0, 0, "a")
	}
	f.Add(uint64(7), top, -1, -2, 1, "")
	f.Fuzz(func(t *testing.T, seed uint64, from, kind, field, n int, s string) {
		next := chance(seed)
		a := byChance(next)
		b := laterOf(next, a)
		d, e := wantMake(t, a, b)
		if e != api.OK {
			t.Fatal(e)
		}
		wantFollows(t, next, a, b, d)
		wantMake(t, a, byChance(next))
		wantApply(t, byChance(next), d)
		wantApply(t, a, but(d, func(d *api.Delta) { d.Roots = append(d.Roots, n) }))
		wantApply(t, a, but(d, func(d *api.Delta) { d.L = append(d.L, item(from, kind)) }))
		for i := range d.L {
			wantApply(t, a, but(d, func(d *api.Delta) { d.L[i].From = from }))
			wantApply(t, a, but(d, func(d *api.Delta) { d.L[i].T = kind }))
			wantApply(t, a, but(d, func(d *api.Delta) { d.L[i] = item(from, kind, d.L[i].Set...) }))
			for _, v := range []api.Val{num(n), lead(n), text(s)} {
				wantApply(t, a, but(d, func(d *api.Delta) { d.L[i].Set = append(d.L[i].Set, set(field, v)) }))
				for k := range d.L[i].Set {
					wantApply(t, a, but(d, func(d *api.Delta) { d.L[i].Set[k].V = v }))
					wantApply(t, a, but(d, func(d *api.Delta) { d.L[i].Set[k].F = field }))
				}
			}
		}
	})
}
