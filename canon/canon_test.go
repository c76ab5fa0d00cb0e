package canon

import (
	"fmt"
	"math"
	"slices"
	"strings"
	"testing"
	"unsafe"

	"foliate/api"
	"foliate/graph"
	"foliate/schema"
)

const top = 1073741824 // 2^30

func num(n int) api.Val     { return api.Val{N: n} }
func text(s string) api.Val { return api.Val{S: s} }
func lead(r int) api.Val    { return api.Val{R: r} }

func obj(id, t int, list ...api.Val) api.Obj { return api.Obj{Id: id, T: t, F: list} }

// read is the schema of a text.
func read(s string) api.Schema {
	x, ok := schema.Read(s)
	if !ok {
		panic(s)
	}
	return x
}

// of is a graph of two types: an a leads to a b, a b to an a.
func of(list ...api.Obj) api.Graph {
	return api.Graph{S: read("a{n:i8,o:*b}b{o:*a}"), O: list}
}

// rings is a graph of one type, whose objects lead to two others, and have a number and a text between.
func rings(list ...api.Obj) api.Graph {
	return api.Graph{S: read("a{o:*a,n:i64,s:t,p:*a}"), O: list}
}

// pair is an object of rings, of a number that tells which one it was.
func pair(n, id, o, p int) api.Obj { return obj(id, 0, lead(o), num(n), text(""), lead(p)) }

// rooted is g with other roots.
func rooted(g api.Graph, ids ...int) api.Graph {
	g.Roots = ids
	return g
}

// row are eight objects, each of which leads to the one ahead of it, and the first one to none.
func row() api.Graph {
	g := rings(pair(0, 0, -1, -1))
	for i := 1; i < 8; i++ {
		g.O = append(g.O, pair(i, 10*i, -1, 10*i-10))
	}
	return g
}

// rich is a graph of four types, all kinds, and objects of each type; one of them is not met.
func rich() api.Graph {
	return api.Graph{
		S: read("a{n:i8,o:*b,s:t}b{o:*a,p:*b}c{}d{h:i16,w:i32,l:i64,a:*a,c:*c}"),
		O: []api.Obj{
			obj(0, 0, num(-128), lead(3), text("")),
			obj(2, 2),
			obj(3, 1, lead(0), lead(3)),
			obj(7, 0, num(127), lead(-1), text("123456789012")),
			obj(8, 3, num(-32768), num(2147483647), num(math.MinInt64), lead(7), lead(2)),
			obj(top, 1, lead(7), lead(3)),
		},
		Roots: []int{8, -1, 3},
	}
}

// clone shares nothing with a graph but its texts.
func clone(g api.Graph) api.Graph {
	x := api.Graph{S: api.Schema{T: slices.Clone(g.S.T)}, O: slices.Clone(g.O), Roots: slices.Clone(g.Roots)}
	for i := range x.S.T {
		x.S.T[i].F = slices.Clone(x.S.T[i].F)
	}
	for i := range x.O {
		x.O[i].F = slices.Clone(x.O[i].F)
	}
	return x
}

// with is a copy of g, changed.
func with(g api.Graph, change func(*api.Graph)) api.Graph {
	x := clone(g)
	change(&x)
	return x
}

// plain are all parts as one text, with quotes, so that it is another one as soon as a part is.
func plain(g api.Graph) string {
	var b strings.Builder
	for _, t := range g.S.T {
		fmt.Fprintf(&b, "type %q ", t.Name)
		for _, f := range t.F {
			fmt.Fprintf(&b, "field %q %d %q ", f.Name, f.Kind, f.To)
		}
	}
	for _, o := range g.O {
		fmt.Fprintf(&b, "object %d %d ", o.Id, o.T)
		for _, v := range o.F {
			fmt.Fprintf(&b, "value %d %q %d ", v.N, v.S, v.R)
		}
	}
	fmt.Fprint(&b, "roots ", g.Roots)
	return b.String()
}

// objOf is the object of an Id.
func objOf(g api.Graph, id int) api.Obj {
	return g.O[slices.IndexFunc(g.O, func(o api.Obj) bool { return o.Id == id })]
}

// refsOf are the Refs of an object, in order of its fields.
func refsOf(g api.Graph, o api.Obj) []int {
	var ids []int
	for k, f := range g.S.T[o.T].F {
		if f.Kind == 5 {
			ids = append(ids, o.F[k].R)
		}
	}
	return ids
}

// orderOf is P9.1, word by word: the list grows while it is gone through.
func orderOf(g api.Graph) []int {
	if !graph.May(g) {
		return nil
	}
	var list []int
	more := func(ids []int) {
		for _, id := range ids {
			if id != -1 && !slices.Contains(list, id) {
				list = append(list, id)
			}
		}
	}
	more(g.Roots)
	for i := 0; i < len(list); i++ {
		more(refsOf(g, objOf(g, list[i])))
	}
	return list
}

// canonOf is P9.2's Canon, word by word. The place of -1 in Order is -1: so it stays.
func canonOf(g api.Graph) api.Graph {
	if !graph.May(g) {
		return api.Graph{}
	}
	x, order := api.Graph{S: g.S}, orderOf(g)
	for place, id := range order {
		o := objOf(g, id)
		made := obj(place, o.T)
		for k, v := range o.F {
			if g.S.T[o.T].F[k].Kind == 5 {
				v = lead(slices.Index(order, v.R))
			}
			made.F = append(made.F, v)
		}
		x.O = append(x.O, made)
	}
	for _, id := range g.Roots {
		x.Roots = append(x.Roots, slices.Index(order, id))
	}
	return x
}

// isoOf tells, without a Canon, whether two are alike: both are gone through at once, and each object has one partner.
func isoOf(a, b api.Graph) bool {
	if !graph.May(a) || !graph.May(b) || !schema.Same(a.S, b.S) {
		return false
	}
	right, left := map[int]int{}, map[int]int{}
	var alike func(x, y []int) bool
	alike = func(x, y []int) bool {
		if len(x) != len(y) {
			return false
		}
		for i := range x {
			if (x[i] == -1) != (y[i] == -1) {
				return false
			}
			if x[i] == -1 {
				continue
			}
			r, hasRight := right[x[i]]
			l, hasLeft := left[y[i]]
			if hasRight != hasLeft || hasRight && (r != y[i] || l != x[i]) {
				return false
			}
			if hasRight {
				continue
			}
			right[x[i]], left[y[i]] = y[i], x[i]
			o, p := objOf(a, x[i]), objOf(b, y[i])
			if o.T != p.T || !alike(refsOf(a, o), refsOf(b, p)) {
				return false
			}
			for k, v := range o.F {
				if v.N != p.F[k].N || v.S != p.F[k].S {
					return false
				}
			}
		}
		return true
	}
	return alike(a.Roots, b.Roots)
}

// renamedBy is g with the Id ids[i] in the place of that of object i, everywhere, and its objects by rising Ids. The graph may be.
func renamedBy(g api.Graph, ids []int) api.Graph {
	to := map[int]int{-1: -1}
	for i, o := range g.O {
		to[o.Id] = ids[i]
	}
	x := clone(g)
	for i := range x.O {
		x.O[i].Id = ids[i]
		for k, f := range x.S.T[x.O[i].T].F {
			if f.Kind == 5 {
				x.O[i].F[k].R = to[x.O[i].F[k].R]
			}
		}
	}
	for i, id := range x.Roots {
		x.Roots[i] = to[id]
	}
	slices.SortFunc(x.O, func(a, b api.Obj) int { return a.Id - b.Id })
	return x
}

// orders are all orders of the numbers.
func orders(list []int) [][]int {
	if len(list) == 0 {
		return [][]int{nil}
	}
	var all [][]int
	for i, n := range list {
		for _, rest := range orders(slices.Delete(slices.Clone(list), i, i+1)) {
			all = append(all, append([]int{n}, rest...))
		}
	}
	return all
}

// chance hands on numbers that look like chance, the same ones each time.
func chance(seed uint64) func(below int) int {
	return func(below int) int {
		seed = seed*6364136223846793005 + 1442695040888963407
		return int(seed >> 33 % uint64(below))
	}
}

// byChance is a graph that may be, of about as many objects as may be.
func byChance(next func(int) int) api.Graph {
	schemas := []string{"a{n:i8,o:*b}b{o:*a}", "a{o:*a,n:i64,s:t,p:*a}", "a{n:i8,o:*b,s:t}b{o:*a,p:*b}c{}d{h:i16,w:i32,l:i64,a:*a,c:*c}", "a{}", "a{o:*b,p:*b,q:*b,r:*c,s:*d}b{o:*a}c{o:*c}d{}", "a{o:*a,p:*a,q:*a,r:*a,s:*a}"}
	g := api.Graph{S: read(schemas[next(len(schemas))])}
	id := next(3)
	for range next(9) {
		g.O = append(g.O, obj(id, next(len(g.S.T))))
		id += 1 + next(2)*next(4)
	}
	for i := range g.O {
		for _, f := range g.S.T[g.O[i].T].F {
			g.O[i].F = append(g.O[i].F, valueByChance(next, g, f))
		}
	}
	for range next(4) {
		id := -1
		if len(g.O) > 0 && next(5) > 0 {
			id = g.O[next(len(g.O))].Id
		}
		g.Roots = append(g.Roots, id)
	}
	return g
}

// valueByChance is one that g may have there. There are few, so that some graphs are alike.
func valueByChance(next func(int) int, g api.Graph, f api.Field) api.Val {
	switch f.Kind {
	case 4:
		return text("123456789012"[:next(2)*next(13)])
	case 5:
		ids := []int{-1}
		for _, o := range g.O {
			if g.S.T[o.T].Name == f.To {
				ids = append(ids, o.Id)
			}
		}
		return lead(ids[next(len(ids))])
	}
	return num(next(3) - 1)
}

// idsByChance are other Ids for the objects of g, in any order.
func idsByChance(next func(int) int, g api.Graph) []int {
	ids := make([]int, len(g.O))
	id := next(3)
	for i := range ids {
		ids[i] = id
		id += 1 + next(2)*next(1<<20)
	}
	if len(ids) > 0 && next(4) == 0 {
		ids[len(ids)-1] = top
	}
	for i := range ids {
		k := i + next(len(ids)-i)
		ids[i], ids[k] = ids[k], ids[i]
	}
	return ids
}

// spot changes one part of g, which may not be behind it, most times.
func spot(next func(int) int, g *api.Graph) {
	few := []int{-2, -1, 0, 1, 2, 3, 5, 8, 128, top, top + 1, math.MinInt, math.MaxInt}
	n := few[next(len(few))]
	if len(g.O) == 0 {
		g.Roots = append(g.Roots, n)
		return
	}
	o := &g.O[next(len(g.O))]
	switch next(7) {
	case 0:
		o.Id = n
	case 1:
		o.T = n
	case 2:
		o.F = append(o.F, lead(n))
	case 3:
		o.F = o.F[:len(o.F)/2]
	case 4:
		g.Roots = append(g.Roots, n)
	default:
		if len(o.F) > 0 {
			o.F[next(len(o.F))] = []api.Val{num(n), lead(n), {N: n, R: n}, {S: "a", R: n}, text("1234567890123")}[next(5)]
		}
	}
}

// good are graphs that may be.
func good() []api.Graph {
	return []api.Graph{
		of(), rings(), row(), rich(), {S: read("a{}")}, {S: read("a{}"), O: []api.Obj{obj(0, 0), obj(1, 0)}, Roots: []int{1, 0}},
		rooted(of(), -1), rooted(of(), -1, -1, -1),
		of(obj(0, 0, num(1), lead(-1))), rooted(of(obj(0, 1, lead(-1)), obj(top, 1, lead(-1))), top, 0),
		rooted(of(obj(4, 0, num(0), lead(9)), obj(9, 1, lead(4))), 9, 4, 9),
		rooted(rings(pair(1, 5, 5, 5)), 5, 5, 5), rooted(rings(pair(1, 5, 5, -1)), -1, 5),
		rooted(row(), 70), rooted(row(), 0, 70, -1), rooted(row(), 30, -1, 50),
	}
}

// bad are graphs that may not be.
func bad() []api.Graph {
	list := []api.Graph{
		{}, {O: []api.Obj{obj(0, 0)}, Roots: []int{0}}, {Roots: []int{-1}}, {Roots: []int{0}},
		{S: api.Schema{T: []api.Type{{Name: "1"}}}, O: []api.Obj{obj(0, 0)}, Roots: []int{0}},
		{S: api.Schema{T: []api.Type{{Name: "a"}, {Name: "a"}}}, O: []api.Obj{obj(0, 0)}, Roots: []int{0}},
		{S: api.Schema{T: []api.Type{{Name: "a", F: []api.Field{{Name: "o", Kind: 5, To: "b"}}}}}, O: []api.Obj{obj(0, 0, lead(-1))}, Roots: []int{0}},
		{S: api.Schema{T: []api.Type{{Name: "a", F: []api.Field{{Name: "n", Kind: 6}}}}}, O: []api.Obj{obj(0, 0, num(0))}, Roots: []int{0}},
		rooted(with(row(), func(g *api.Graph) { g.O = append(g.O, pair(8, 80, -1, -1)) }), 0), // nine objects
		rooted(of(obj(-1, 1, lead(-1))), -1), rooted(of(obj(-2, 1, lead(-1))), -2),
		rooted(of(obj(top+1, 1, lead(-1))), top+1), rooted(of(obj(math.MaxInt, 1, lead(-1))), math.MaxInt),
		rooted(of(obj(0, 1, lead(-1)), obj(0, 1, lead(-1))), 0), rooted(of(obj(1, 1, lead(-1)), obj(0, 1, lead(-1))), 0),
		rooted(of(obj(0, -1, lead(-1))), 0), rooted(of(obj(0, 2, lead(-1))), 0), rooted(of(obj(0, math.MinInt)), 0), rooted(of(obj(0, math.MaxInt)), 0),
		rooted(of(obj(0, 1)), 0), rooted(of(obj(0, 1, lead(-1), lead(-1))), 0), rooted(of(obj(0, 0)), 0),
		rooted(of(obj(0, 0, num(128), lead(-1))), 0), rooted(of(obj(0, 0, lead(-1), num(0))), 0), rooted(of(obj(0, 0, api.Val{R: -1}, lead(-1))), 0),
		rooted(of(obj(0, 1, lead(-2))), 0), rooted(of(obj(0, 1, lead(0))), 0), rooted(of(obj(0, 1, lead(1))), 0), rooted(of(obj(0, 1, lead(math.MinInt))), 0),
		of(obj(0, 1, lead(7))), // what is not met may not be, either
		rooted(of(), 0), rooted(of(), -2), rooted(of(), -1, -1, -1, -1), rooted(of(), -1, 0), rooted(of(), math.MinInt), rooted(of(), math.MaxInt),
		rooted(row(), 0, 10, 20, 30), rooted(row(), 1), rooted(row(), 0, 71), rooted(row(), 0, 10, -2),
		with(rich(), func(g *api.Graph) { g.O[5].F[0] = lead(2) }), with(rich(), func(g *api.Graph) { g.S.T = g.S.T[:3] }),
	}
	return list
}

func someGraphs() []api.Graph { return append(good(), bad()...) }

// wantAll holds Order, Canon, and Iso with itself, against what is wanted.
func wantAll(t testing.TB, g api.Graph, order []int, made api.Graph, may bool) {
	t.Helper()
	if got := Order(g); !slices.Equal(got, order) {
		t.Fatalf("Order of %v is %v, not %v", g, got, order)
	}
	if got := Canon(g); plain(got) != plain(made) {
		t.Fatalf("Canon of %v is %v, not %v", g, got, made)
	}
	if got := Iso(g, clone(g)); got != may {
		t.Fatalf("Iso of %v, twice, is %v", g, got)
	}
}

// wantAsSaid holds all calls against the words, and tells whether g may be.
func wantAsSaid(t testing.TB, g api.Graph) bool {
	t.Helper()
	may := graph.May(g)
	wantAll(t, g, orderOf(g), canonOf(g), may)
	return may
}

func wantIso(t testing.TB, a, b api.Graph, want bool) {
	t.Helper()
	if Iso(a, b) != want || Iso(b, a) != want {
		t.Fatalf("Iso of %v and %v is %v, and %v the other way round, not %v", a, b, Iso(a, b), Iso(b, a), want)
	}
}

// P9.1, by hand.
func TestOrder(t *testing.T) {
	five := rings(pair(2, 2, -1, -1), pair(5, 5, -1, 2))
	tree := rings(pair(0, 0, 6, 3), pair(1, 1, -1, -1), pair(2, 2, -1, -1), pair(3, 3, 2, 1), pair(4, 4, -1, -1), pair(5, 5, -1, -1), pair(6, 6, 5, 4))
	both := rings(pair(0, 0, 7, 2), pair(1, 1, -1, -1), pair(2, 2, 1, -1), pair(7, 7, -1, 1))
	loop := rings(pair(1, 1, 4, -1), pair(4, 4, -1, 9), pair(9, 9, 1, -1), pair(10, 10, 1, 9), pair(11, 11, 11, 12), pair(12, 12, -1, 11))
	for _, x := range []struct {
		name string
		g    api.Graph
		want []int
	}{
		{"the chapter's example", rooted(five, 5), []int{5, 2}},
		{"no root", five, nil}, {"no object", of(), nil}, {"no object, and roots of -1", rooted(of(), -1, -1), nil},
		{"roots of -1 alone", rooted(five, -1, -1, -1), nil},
		{"-1 ahead", rooted(five, -1, 2), []int{2}}, {"-1 ahead, twice", rooted(five, -1, -1, 5), []int{5, 2}},
		{"-1 between", rooted(five, 5, -1, 2), []int{5, 2}}, {"-1 behind", rooted(five, 2, -1, -1), []int{2}}, {"-1 behind two", rooted(five, 2, 5, -1), []int{2, 5}},
		{"one root twice", rooted(five, 2, 2), []int{2}}, {"one root, another one, and it", rooted(five, 2, 5, 2), []int{2, 5}}, {"three times", rooted(five, 5, 5, 5), []int{5, 2}},
		{"a root to which the one ahead leads", rooted(five, 5, 2), []int{5, 2}}, {"a root to which the one behind leads", rooted(five, 2, 5), []int{2, 5}},
		{"roots ahead of what they lead to", rooted(tree, 0, 4), []int{0, 4, 6, 3, 5, 2, 1}},
		{"roots not by their Ids", rooted(row(), 60, 20, 40), []int{60, 20, 40, 50, 10, 30, 0}},
		{"two fields, in their order, and then what is behind them", rooted(tree, 0), []int{0, 6, 3, 5, 4, 2, 1}},
		{"one behind", rooted(tree, 3, 6), []int{3, 6, 2, 1, 5, 4}},
		{"in two ways", rooted(both, 0), []int{0, 7, 2, 1}}, {"in two ways, one by a root", rooted(both, 0, 1), []int{0, 1, 7, 2}},
		{"a ring", rooted(loop, 1), []int{1, 4, 9}}, {"a ring, elsewhere", rooted(loop, 9), []int{9, 1, 4}}, {"a ring, and what leads to it", rooted(loop, 10), []int{10, 1, 9, 4}},
		{"to itself, and a ring of two", rooted(loop, 11), []int{11, 12}}, {"two rings", rooted(loop, 12, 4), []int{12, 4, 11, 9, 1}},
		{"to itself, twice", rooted(rings(pair(3, 3, 3, 3), pair(4, 4, 3, 4)), 3), []int{3}}, {"to itself, behind", rooted(rings(pair(3, 3, 3, 3), pair(4, 4, 3, 4)), 4), []int{4, 3}},
		{"eight in a row", rooted(row(), 70), []int{70, 60, 50, 40, 30, 20, 10, 0}}, {"the row's end", rooted(row(), 0), []int{0}}, {"the row from both ends", rooted(row(), 0, 70), []int{0, 70, 60, 50, 40, 30, 20, 10}},
		{"all kinds, and types", rich(), []int{8, 3, 7, 2, 0}}, {"another root of these", rooted(rich(), top), []int{top, 7, 3, 0}}, {"a type without fields", rooted(rich(), 2, 7), []int{2, 7}},
	} {
		if got := Order(x.g); !slices.Equal(got, x.want) {
			t.Errorf("%s: Order of %v is %v, not %v", x.name, x.g, got, x.want)
		}
		wantAsSaid(t, x.g)
	}
}

// P9.1: numbers and texts lead nowhere, whatever Id is like them; Refs lead past them.
func TestOnlyRefsLead(t *testing.T) {
	g := rings(pair(0, 0, -1, -1), obj(1, 0, lead(-1), num(2), text("3"), lead(-1)), pair(0, 2, -1, -1), pair(0, 3, -1, -1))
	wantAll(t, rooted(g, 1), []int{1}, rooted(rings(obj(0, 0, lead(-1), num(2), text("3"), lead(-1))), 0), true)
	flat := api.Graph{S: read("a{a:i8,b:i16,c:i32,d:i64,e:t}"), O: []api.Obj{obj(0, 0, make([]api.Val, 5)...), obj(1, 0, make([]api.Val, 5)...)}, Roots: []int{1}}
	wantAll(t, flat, []int{1}, rooted(api.Graph{S: flat.S, O: flat.O[:1]}, 0), true)
	last := api.Graph{S: read("a{a:i8,b:t,o:*b,c:i64,p:*a}b{}"), O: []api.Obj{obj(1, 1), obj(2, 0, num(4), text("x"), lead(1), num(3), lead(3)), obj(3, 0, num(0), text(""), lead(-1), num(1), lead(2)), obj(4, 1)}, Roots: []int{2}}
	made := api.Graph{S: last.S, O: []api.Obj{obj(0, 0, num(4), text("x"), lead(1), num(3), lead(2)), obj(1, 1), obj(2, 0, num(0), text(""), lead(-1), num(1), lead(0))}, Roots: []int{0}}
	wantAll(t, last, []int{2, 1, 3}, made, true)
}

// P9.2: Canon, by hand.
func TestCanon(t *testing.T) {
	for _, x := range []struct {
		g    api.Graph
		want api.Graph
	}{
		{rooted(rings(pair(2, 2, -1, -1), pair(5, 5, -1, 2)), 5), rooted(rings(pair(5, 0, -1, 1), pair(2, 1, -1, -1)), 0)}, // the chapter's example
		{of(), of()}, {rooted(of(), -1), rooted(of(), -1)}, {rooted(of(), -1, -1, -1), rooted(of(), -1, -1, -1)}, {api.Graph{S: rich().S}, api.Graph{S: rich().S}},
		{row(), rings()}, {rooted(row(), -1, -1), rooted(rings(), -1, -1)}, {rich(), api.Graph{
			S: rich().S,
			O: []api.Obj{
				obj(0, 3, num(-32768), num(2147483647), num(math.MinInt64), lead(2), lead(3)),
				obj(1, 1, lead(4), lead(1)),
				obj(2, 0, num(127), lead(-1), text("123456789012")),
				obj(3, 2),
				obj(4, 0, num(-128), lead(1), text("")),
			},
			Roots: []int{0, -1, 1},
		}},
		{rooted(row(), 70), rooted(rings(pair(7, 0, -1, 1), pair(6, 1, -1, 2), pair(5, 2, -1, 3), pair(4, 3, -1, 4), pair(3, 4, -1, 5), pair(2, 5, -1, 6), pair(1, 6, -1, 7), pair(0, 7, -1, -1)), 0)},
		{rooted(row(), 20, -1, 10), rooted(rings(pair(2, 0, -1, 1), pair(1, 1, -1, 2), pair(0, 2, -1, -1)), 0, -1, 1)},
		{rooted(row(), -1, 10, 10), rooted(rings(pair(1, 0, -1, 1), pair(0, 1, -1, -1)), -1, 0, 0)},
		{rooted(row(), 0, 10, 0), rooted(rings(pair(0, 0, -1, -1), pair(1, 1, -1, 0)), 0, 1, 0)},
		{rooted(rings(pair(3, 3, 3, 3)), 3), rooted(rings(pair(3, 0, 0, 0)), 0)},
		{rooted(rings(pair(7, 0, 1, -1), pair(8, 1, 0, 1)), 1), rooted(rings(pair(8, 0, 1, 0), pair(7, 1, 0, -1)), 0)}, // new Ids that are old ones of others
		{rooted(rings(pair(7, 0, 1, 2), pair(8, 1, 2, 0), pair(9, 2, 0, 1)), 2), rooted(rings(pair(9, 0, 1, 2), pair(7, 1, 2, 0), pair(8, 2, 0, 1)), 0)},
		{rooted(of(obj(top-1, 0, num(4), lead(top)), obj(top, 1, lead(top-1))), top), rooted(of(obj(0, 1, lead(1)), obj(1, 0, num(4), lead(0))), 0)},
	} {
		if got := Canon(x.g); plain(got) != plain(x.want) {
			t.Errorf("Canon of %v is %v, not %v", x.g, got, x.want)
		}
		wantAsSaid(t, x.g)
	}
}

// P9.1, P9.2: nothing of a graph that may not be, and Iso with none.
func TestOfWhatMayNotBe(t *testing.T) {
	for _, g := range bad() {
		if graph.May(g) {
			t.Fatal("may be:", g)
		}
		wantAll(t, g, nil, api.Graph{}, false)
		for _, x := range someGraphs() {
			wantIso(t, g, x, false)
		}
	}
	for i := range row().O {
		g := rooted(row(), 70)
		g.O[i].F[1].R = 1
		wantAll(t, g, nil, api.Graph{}, false)
		wantIso(t, g, rooted(row(), 70), false)
	}
}

// near are graphs of which no two are alike: each differs from the first one in one part that is met.
func near() []api.Graph {
	first := rooted(rings(pair(1, 1, 2, 3), pair(2, 2, 2, -1), pair(3, 3, -1, 1)), 1, -1, 3)
	list := []api.Graph{first}
	for _, change := range []func(*api.Graph){
		func(g *api.Graph) { g.O[0].F[1].N++ }, func(g *api.Graph) { g.O[1].F[1].N-- }, func(g *api.Graph) { g.O[2].F[1].N += 1 << 40 },
		func(g *api.Graph) { g.O[0].F[2].S = "a" }, func(g *api.Graph) { g.O[1].F[2].S = "A" }, func(g *api.Graph) { g.O[2].F[2].S = "\x00" },
		func(g *api.Graph) { g.O[0].F[0].R = 1 }, func(g *api.Graph) { g.O[0].F[3].R = 2 }, func(g *api.Graph) { g.O[0].F[3].R = -1 }, func(g *api.Graph) { g.O[0].F[0].R, g.O[0].F[3].R = 3, 2 },
		func(g *api.Graph) { g.O[1].F[0].R = 3 }, func(g *api.Graph) { g.O[1].F[0].R = -1 }, func(g *api.Graph) { g.O[1].F[3].R = 2 }, func(g *api.Graph) { g.O[1].F[3].R = 1 },
		func(g *api.Graph) { g.O[2].F[0].R = 3 }, func(g *api.Graph) { g.O[2].F[0].R = 1 }, func(g *api.Graph) { g.O[2].F[3].R = -1 }, func(g *api.Graph) { g.O[2].F[3].R = 3 },
		func(g *api.Graph) { g.Roots[0] = -1 }, func(g *api.Graph) { g.Roots[0] = 3 }, func(g *api.Graph) { g.Roots[1] = 1 }, func(g *api.Graph) { g.Roots[1] = 2 }, func(g *api.Graph) { g.Roots[2] = -1 }, func(g *api.Graph) { g.Roots[2] = 2 },
		func(g *api.Graph) { g.Roots = g.Roots[:2] }, func(g *api.Graph) { g.Roots = g.Roots[:1] }, func(g *api.Graph) { g.Roots = nil }, func(g *api.Graph) { g.Roots = []int{-1, 1, 3} }, func(g *api.Graph) { g.Roots = []int{3, -1, 1} }, func(g *api.Graph) { g.Roots = []int{1, 3, -1} }, func(g *api.Graph) { g.Roots = []int{1, 3} },
		func(g *api.Graph) { g.S.T[0].Name, g.S.T[0].F[0].To, g.S.T[0].F[3].To = "b", "b", "b" },
		func(g *api.Graph) { g.S.T[0].F[0].Name = "q" }, func(g *api.Graph) { g.S.T[0].F[1].Name = "m" }, func(g *api.Graph) { g.S.T[0].F[1].Kind = 2 }, func(g *api.Graph) { g.S.T[0].F[1].Kind = 0 },
		func(g *api.Graph) { g.S.T = append(g.S.T, api.Type{Name: "b"}) }, func(g *api.Graph) { g.S.T = append(g.S.T, api.Type{Name: "c"}) },
	} {
		list = append(list, with(first, change))
	}
	return list
}

// P9.2: Iso of graphs that differ in one part alone.
func TestIsoOfOthers(t *testing.T) {
	for i, a := range near() {
		if !graph.May(a) {
			t.Fatal("may not be:", i, a)
		}
		for k, b := range near() {
			wantIso(t, a, b, i == k)
			wantIso(t, a, Canon(b), i == k)
		}
	}
	types := api.Graph{S: read("a{}b{}c{o:*a}d{o:*a}"), O: []api.Obj{obj(0, 0), obj(1, 1), obj(2, 2, lead(0)), obj(3, 3, lead(0))}}
	for a := range 4 {
		for b := range 4 {
			wantIso(t, rooted(types, a), rooted(types, b), a == b) // one type's place alone
			wantIso(t, rooted(types, a, b), rooted(types, b, a), a == b)
		}
	}
	for _, texts := range [][2]string{{"a{}b{}", "b{}a{}"}, {"a{}", "b{}"}, {"a{}", "a{n:i8}"}, {"a{n:i8,m:i8}", "a{m:i8,n:i8}"}, {"a{o:*a}b{}", "a{o:*b}b{}"}} {
		a, b := api.Graph{S: read(texts[0])}, api.Graph{S: read(texts[1])}
		wantIso(t, a, b, false) // schemas alone, without an object
		wantIso(t, rooted(a, -1), rooted(b, -1), false)
		wantIso(t, a, a, true)
	}
	one := api.Graph{S: read("a{}"), O: []api.Obj{obj(4, 0), obj(5, 0)}}
	wantIso(t, rooted(one, 4, 4), rooted(one, 4, 5), false) // one object twice, and two that are like it
	wantIso(t, rooted(one, 4, 4), rooted(one, 5, 5), true)
	wantIso(t, rooted(one, 4, 5), rooted(one, 5, 4), true)
	twice := rings(pair(0, 0, 1, 1), pair(0, 1, -1, -1), pair(0, 2, 1, 3), pair(0, 3, -1, -1), pair(0, 4, 4, -1), pair(0, 5, 6, -1), pair(0, 6, 5, -1))
	wantIso(t, rooted(twice, 0), rooted(twice, 2), false)
	wantIso(t, rooted(twice, 4), rooted(twice, 5), false) // a ring of one, and of two that are like it
	wantIso(t, rooted(twice, 6), rooted(twice, 5), true)
}

// P9.2: Iso of graphs that differ just in what is not met, and in Ids.
func TestIsoOfWhatIsNotMet(t *testing.T) {
	g := rooted(rings(pair(1, 1, 4, -1), pair(4, 4, 1, 4)), 4, -1)
	for _, x := range []api.Graph{
		rings(pair(1, 1, 4, -1), pair(4, 4, 1, 4), pair(9, 9, 1, 4)),
		rings(pair(9, 0, 0, 4), pair(1, 1, 4, -1), pair(9, 2, 9, 0), pair(4, 4, 1, 4), pair(8, 9, 2, 2)),
		rings(pair(9, 0, -1, -1), pair(1, 1, 4, -1), pair(4, 4, 1, 4)),
	} {
		x = rooted(x, 4, -1)
		wantIso(t, g, x, true)
		wantAll(t, x, []int{4, 1}, Canon(g), true)
	}
	wantIso(t, g, rooted(rings(pair(4, 0, 1, 0), pair(1, 1, 0, -1)), 0, -1), true)
	wantIso(t, g, rooted(rings(pair(4, 7, top, 7), pair(1, top, 7, -1)), 7, -1), true)
	wantIso(t, of(obj(3, 1, lead(-1))), of(), true) // without roots nothing is met
	wantIso(t, of(obj(3, 1, lead(-1))), of(obj(0, 0, num(1), lead(-1))), true)
	wantIso(t, row(), rings(), true)
	wantIso(t, row(), of(), false)
	wantIso(t, rooted(row(), -1), rings(), false)
}

// P9.1 to P9.3, over all ways in which three objects can lead to one another, with all of up to two roots.
func TestAllThree(t *testing.T) {
	ids := []int{-1, 4, 5, 7}
	roots := [][]int{nil}
	for _, a := range ids {
		roots = append(roots, []int{a})
		for _, b := range ids {
			roots = append(roots, []int{a, b})
		}
	}
	for n := range 1 << 12 {
		leads := func(i int) int { return ids[n>>(2*i)&3] }
		g := rings(pair(1, 4, leads(0), leads(1)), pair(2, 5, leads(2), leads(3)), pair(3, 7, leads(4), leads(5)))
		for _, r := range roots {
			g.Roots = r
			wantAsSaid(t, g)
		}
		g.Roots = roots[n%len(roots)]
		wantFollows(t, g)
		for _, other := range orders([]int{0, 3, top}) {
			wantSameBehind(t, g, other)
		}
	}
}

// tiny are all graphs of up to two objects of some numbers and Refs, with all of up to two roots.
func tiny() []api.Graph {
	s := read("a{n:i8,o:*a}")
	var list []api.Graph
	grow := func(ids []int, objs ...api.Obj) {
		list = append(list, api.Graph{S: s, O: objs})
		for _, a := range ids {
			list = append(list, api.Graph{S: s, O: objs, Roots: []int{a}})
			for _, b := range ids {
				list = append(list, api.Graph{S: s, O: objs, Roots: []int{a, b}})
			}
		}
	}
	grow([]int{-1})
	for n := range 2 {
		for _, r := range []int{-1, 3} {
			grow([]int{-1, 3}, obj(3, 0, num(n), lead(r)))
		}
	}
	ids := []int{-1, 3, 5}
	for n := range 4 {
		for _, r := range ids {
			for _, p := range ids {
				grow(ids, obj(3, 0, num(n/2), lead(r)), obj(5, 0, num(n%2), lead(p)))
			}
		}
	}
	return list
}

// P9.2: Iso, of all pairs of small graphs, is whether both can be gone through at once.
func TestIsoAgainstPartners(t *testing.T) {
	list, count := tiny(), map[bool]int{}
	for _, a := range list {
		for _, b := range list {
			want := isoOf(a, b)
			count[want]++
			if got := Iso(a, b); got != want {
				t.Fatalf("Iso of %v and %v is %v", a, b, got)
			}
		}
	}
	if count[true] < 1000 || count[false] < 1000 {
		t.Error("too few pairs were tried:", count)
	}
}

// P9.1 to P9.3, over graphs by hand, and many by chance; some of them may not be.
func TestAgainstTheWords(t *testing.T) {
	for _, g := range someGraphs() {
		wantAsSaid(t, g)
	}
	next, sizes, not := chance(91), map[int]int{}, 0
	for range 20000 {
		g := byChance(next)
		if !wantAsSaid(t, g) {
			t.Fatal("may not be:", g)
		}
		sizes[len(orderOf(g))]++
		wantFollows(t, g)
		wantSameBehind(t, g, idsByChance(next, g))
		spot(next, &g)
		if !wantAsSaid(t, g) {
			not++
		}
	}
	for n := range 9 {
		if sizes[n] < 50 {
			t.Errorf("only %d graphs of which %d objects are met were tried", sizes[n], n)
		}
	}
	if not < 5000 {
		t.Error("too few graphs that may not be were tried:", not)
	}
}

// P9.2: Iso of a graph and of one that is changed in one part, by other Ids.
func TestIsoOfChanged(t *testing.T) {
	next, count := chance(92), map[bool]int{}
	for range 20000 {
		g := byChance(next)
		x := renamedBy(g, idsByChance(next, g))
		if len(x.O) > 0 {
			o := &x.O[next(len(x.O))]
			if fields := x.S.T[o.T].F; len(fields) > 0 {
				k := next(len(fields))
				o.F[k] = valueByChance(next, x, fields[k])
			}
		}
		want := isoOf(g, x)
		count[want]++
		wantIso(t, g, x, want)
	}
	if count[true] < 2000 || count[false] < 2000 {
		t.Error("too few pairs were tried:", count)
	}
}

// wantFollows is P9.3 of one graph that may be: Order has what is come to, and the Canon of a Canon is it.
func wantFollows(t testing.TB, g api.Graph) {
	t.Helper()
	order := Order(g)
	if !slices.Equal(slices.Sorted(slices.Values(order)), graph.Reach(g)) {
		t.Fatalf("Order of %v is %v, and it comes to %v", g, order, graph.Reach(g))
	}
	once := Canon(g)
	if !graph.May(once) || plain(Canon(once)) != plain(once) || !Iso(once, g) || !Iso(g, once) {
		t.Fatalf("Canon of %v is %v, and that of it %v", g, once, Canon(once))
	}
	for place, id := range Order(once) {
		if id != place {
			t.Fatalf("Order of the Canon of %v is %v", g, Order(once))
		}
	}
	if len(Order(once)) != len(order) || len(once.O) != len(order) || !schema.Same(once.S, g.S) || plain(graph.Sweep(once)) != plain(once) {
		t.Fatalf("Canon of %v is %v", g, once)
	}
}

// wantSameBehind is P9.3 of one graph, and of it by other Ids, in any order.
func wantSameBehind(t testing.TB, g api.Graph, ids []int) {
	t.Helper()
	x := renamedBy(g, ids)
	if !graph.May(x) {
		t.Fatal("may not be, by other Ids:", x)
	}
	if plain(Canon(x)) != plain(Canon(g)) || !Iso(x, g) || !Iso(g, x) || !Iso(graph.Sweep(x), g) {
		t.Fatalf("Canon of %v is %v, and of %v it is %v", g, Canon(g), x, Canon(x))
	}
	want := Order(g)
	for i, id := range want {
		want[i] = ids[slices.IndexFunc(g.O, func(o api.Obj) bool { return o.Id == id })]
	}
	if got := Order(x); !slices.Equal(got, want) {
		t.Fatalf("Order of %v is %v, not %v", x, got, want)
	}
}

// P9.3, by hand, in all orders of up to six objects.
func TestOtherIds(t *testing.T) {
	for _, g := range good() {
		wantFollows(t, g)
		if len(g.O) > 6 {
			wantSameBehind(t, g, []int{7, 6, 5, 4, 3, 2, 1, 0})
			wantSameBehind(t, g, []int{top, 0, top - 1, 1, top - 2, 2, top - 3, 3})
			continue
		}
		for _, ids := range orders([]int{0, 1, 2, 9, 100, top}[:len(g.O)]) {
			wantSameBehind(t, g, ids)
		}
	}
}

// P1, R1: much of everything is taken, and ends soon.
func TestLong(t *testing.T) {
	const count = 1 << 18
	long := strings.Repeat("a", 1<<20)
	chain := rings()
	for i := range count {
		chain.O = append(chain.O, pair(0, i, i+1, count-i))
	}
	for _, g := range []api.Graph{
		rooted(chain, 0, 1, count-1),
		rooted(row(), make([]int, count)...),
		rooted(of(), slices.Repeat([]int{-1}, count)...),
		{S: api.Schema{T: slices.Repeat([]api.Type{{Name: "a"}}, count)}},
		{S: api.Schema{T: []api.Type{{Name: "a", F: slices.Repeat([]api.Field{{Name: "n"}}, count)}}}},
		{S: api.Schema{T: []api.Type{{Name: long}}}},
		rooted(of(obj(0, 0, make([]api.Val, count)...)), 0),
		rooted(of(obj(0, 0, text(long), text(long))), 0),
	} {
		if len(Order(g)) != 0 || plain(Canon(g)) != plain(api.Graph{}) || Iso(g, g) || Iso(g, rich()) || Iso(rich(), g) {
			t.Error("of much:", len(g.O), len(g.Roots), len(g.S.T))
		}
	}
	// All eight lead to all that five fields can lead to.
	full := api.Graph{S: read("a{o:*a,p:*a,q:*a,r:*a,s:*a}"), Roots: []int{7, 0, 3}}
	for i := range 8 {
		full.O = append(full.O, obj(i, 0, lead((i+1)%8), lead((i+2)%8), lead(i), lead((i+7)%8), lead((i+4)%8)))
	}
	wantAll(t, full, []int{7, 0, 3, 1, 6, 2, 4, 5}, canonOf(full), true)
}

// R6: lists that are nil, or empty.
func TestEmptyLists(t *testing.T) {
	empty := api.Graph{S: api.Schema{T: []api.Type{{Name: "a", F: []api.Field{}}}}, O: []api.Obj{{Id: 3, F: []api.Val{}}}, Roots: []int{}}
	null := api.Graph{S: api.Schema{T: []api.Type{{Name: "a"}}}, O: []api.Obj{{Id: 3}}}
	wantIso(t, empty, null, true)
	wantIso(t, rooted(empty, 3), rooted(null, 3), true)
	wantIso(t, api.Graph{S: empty.S, O: []api.Obj{}}, null, true)
	wantAll(t, api.Graph{S: api.Schema{T: []api.Type{}}, O: []api.Obj{}, Roots: []int{}}, nil, api.Graph{}, false)
}

// roomy has room behind each list, with something in it.
func roomy[T any](list []T, behind T) []T {
	return append(slices.Clone(list), behind, behind, behind)[:len(list)]
}

func roomyCopy(g api.Graph) api.Graph {
	x := api.Graph{S: api.Schema{T: roomy(g.S.T, api.Type{Name: "z"})}, O: roomy(g.O, obj(99, 99)), Roots: roomy(g.Roots, 99)}
	for i := range x.S.T {
		x.S.T[i].F = roomy(x.S.T[i].F, api.Field{Name: "z"})
	}
	for i := range x.O {
		x.O[i].F = roomy(x.O[i].F, num(99))
	}
	return x
}

// whole is g, with all the room behind its lists.
func whole(g api.Graph) api.Graph {
	x := api.Graph{S: api.Schema{T: slices.Clone(g.S.T[:cap(g.S.T)])}, O: slices.Clone(g.O[:cap(g.O)]), Roots: g.Roots[:cap(g.Roots)]}
	for i := range x.S.T {
		x.S.T[i].F = x.S.T[i].F[:cap(x.S.T[i].F)]
	}
	for i := range x.O {
		x.O[i].F = x.O[i].F[:cap(x.O[i].F)]
	}
	return x
}

// R3: what is handed in stays as it was, also behind its lists' ends.
func TestHandedInStays(t *testing.T) {
	for _, x := range append(someGraphs(), near()...) {
		g := roomyCopy(x)
		was := plain(whole(g))
		Order(g)
		Canon(g)
		Iso(g, g)
		Iso(g, rich())
		if plain(whole(g)) != was || plain(g) != plain(x) {
			t.Fatalf("%v became %v", x, g)
		}
	}
}

// spoil writes over all of a graph, and the room behind it.
func spoil(g api.Graph) {
	for _, t := range g.S.T[:cap(g.S.T)] {
		fill(t.F, api.Field{Name: "spoilt", Kind: 77})
	}
	for _, o := range g.O[:cap(g.O)] {
		fill(o.F, api.Val{N: 77, S: "spoilt", R: 77})
	}
	fill(g.S.T, api.Type{Name: "spoilt"})
	fill(g.O, obj(77, 77))
	fill(g.Roots, 77)
}

func fill[T any](list []T, x T) {
	list = list[:cap(list)]
	for i := range list {
		list[i] = x
	}
}

// R3: what is answered shares nothing with what was handed in, nor with another answer.
func TestAnswersAreOnesOwn(t *testing.T) {
	for _, x := range append(someGraphs(), near()...) {
		g := roomyCopy(x)
		made, other := Canon(g), Canon(g)
		order, again := Order(g), Order(g)
		spoil(made)
		fill(order, 77)
		if plain(g) != plain(x) || plain(other) != plain(canonOf(x)) || !slices.Equal(again, orderOf(x)) {
			t.Fatalf("an answer of %v shares memory", x)
		}
		spoil(g)
		if plain(other) != plain(canonOf(x)) || !slices.Equal(again, orderOf(x)) {
			t.Fatalf("an answer of %v changes with it", x)
		}
		wantAsSaid(t, x)
	}
}

// R3: no two lists of one answer share memory, also if two of what was handed in do.
func TestListsOfOneAnswer(t *testing.T) {
	values := []api.Val{lead(-1), num(1), text("a"), lead(-1)}
	fields := []api.Field{{Name: "o", Kind: 5, To: "a"}, {Name: "n", Kind: 3}, {Name: "s", Kind: 4}, {Name: "p", Kind: 5, To: "a"}}
	g := api.Graph{S: api.Schema{T: []api.Type{{Name: "a", F: fields}, {Name: "b", F: fields}}}, O: []api.Obj{obj(0, 0, values...), obj(1, 0, values...), obj(2, 1, values...)}, Roots: []int{2, 1, 0}}
	wantAsSaid(t, g)
	x := Canon(g)
	rest := func() string { return plain(api.Graph{S: api.Schema{T: x.S.T[1:]}, O: x.O[1:], Roots: x.Roots}) }
	was := rest()
	fill(x.S.T[0].F, api.Field{Name: "spoilt"})
	fill(x.O[0].F, num(77))
	if rest() != was {
		t.Error("two lists of one answer share memory")
	}
	own := []api.Val{lead(1), num(1), text("a"), lead(0)}
	ring := api.Graph{S: g.S, O: []api.Obj{obj(0, 0, own...), obj(1, 0, own...)}, Roots: []int{1}}
	wantAll(t, ring, []int{1, 0}, api.Graph{S: g.S, O: []api.Obj{obj(0, 0, lead(0), num(1), text("a"), lead(1)), obj(1, 0, lead(0), num(1), text("a"), lead(1))}, Roots: []int{0}}, true)
}

// borrowed is a text that lies in bytes that can still be changed.
func borrowed(s string) (string, []byte) {
	b := []byte(s + " ")
	return unsafe.String(&b[0], len(s)), b
}

// R3: nothing of a text that was handed in is kept.
func TestTextsAreNotKept(t *testing.T) {
	g := rich()
	var all [][]byte
	lend := func(s *string) {
		lent, b := borrowed(*s)
		*s, all = lent, append(all, b)
	}
	for i := range g.S.T {
		lend(&g.S.T[i].Name)
		for k := range g.S.T[i].F {
			lend(&g.S.T[i].F[k].Name)
			lend(&g.S.T[i].F[k].To)
		}
	}
	for _, o := range g.O {
		for k := range o.F {
			lend(&o.F[k].S)
		}
	}
	got := Canon(g)
	for _, b := range all {
		fill(b, '?')
	}
	if plain(got) != plain(canonOf(rich())) {
		t.Fatal("a text is kept:", got)
	}
}

// R5: what is answered does not hang on what was asked before.
func TestAskedAgain(t *testing.T) {
	list := append(someGraphs(), near()...)
	for i, g := range list {
		for range 3 {
			wantAsSaid(t, g)
			Canon(list[len(list)-1-i])
			Order(list[len(list)-1-i])
		}
	}
}

func FuzzCanon(f *testing.F) {
	for seed := range uint64(20) {
		f.Add(seed, 0, 0, "a")
	}
	f.Add(uint64(7), top, -1, "")
	f.Fuzz(func(t *testing.T, seed uint64, id, n int, s string) {
		next := chance(seed)
		g := byChance(next)
		wantAsSaid(t, g)
		wantFollows(t, g)
		wantSameBehind(t, g, idsByChance(next, g))
		x := byChance(next)
		wantIso(t, g, x, isoOf(g, x))
		if len(g.O) == 0 {
			return
		}
		x = clone(g)
		last := &x.O[len(x.O)-1]
		last.Id = id
		for k := range last.F {
			last.F[k] = []api.Val{num(n), text(s), lead(n), last.F[k]}[next(4)]
		}
		wantAsSaid(t, x)
		wantIso(t, g, x, isoOf(g, x))
	})
}
