package graph

import (
	"fmt"
	"math"
	"slices"
	"strings"
	"testing"
	"unsafe"

	"foliate/api"
	"foliate/schema"
	"foliate/value"
)

const top = 1073741824 // 2^30

func num(n int) api.Val     { return api.Val{N: n} }
func text(s string) api.Val { return api.Val{S: s} }
func lead(r int) api.Val    { return api.Val{R: r} }

func obj(id, t int, list ...api.Val) api.Obj { return api.Obj{Id: id, T: t, F: list} }

// read is the schema of a text.
func read(s string) api.Schema {
	x, ok := schema.Read(s)
	if !ok {
		panic(s)
	}
	return x
}

// of is a graph of two types: an a leads to a b, a b to an a.
func of(list ...api.Obj) api.Graph {
	return api.Graph{S: read("a{n:i8,o:*b}b{o:*a}"), O: list}
}

// rings is a graph of one type, whose objects lead to two others, and have a number and a text between.
func rings(list ...api.Obj) api.Graph {
	return api.Graph{S: read("a{o:*a,n:i64,s:t,p:*a}"), O: list}
}

// pair is an object of rings.
func pair(id, o, p int) api.Obj { return obj(id, 0, lead(o), num(0), text(""), lead(p)) }

// rooted is g with other roots.
func rooted(g api.Graph, ids ...int) api.Graph {
	g.Roots = ids
	return g
}

// row are eight objects, each of which leads to the next one, and the last one to none.
func row() api.Graph {
	g := rings()
	for i := range 7 {
		g.O = append(g.O, pair(10*i, -1, 10*i+10))
	}
	g.O = append(g.O, pair(70, -1, -1))
	return g
}

// rich is a graph of four types, all kinds, and objects of each type.
func rich() api.Graph {
	return api.Graph{
		S: read("a{n:i8,o:*b,s:t}b{o:*a,p:*b}c{}d{h:i16,w:i32,l:i64,a:*a,c:*c}"),
		O: []api.Obj{
			obj(0, 0, num(-128), lead(3), text("")),
			obj(2, 2),
			obj(3, 1, lead(0), lead(3)),
			obj(7, 0, num(127), lead(-1), text("123456789012")),
			obj(8, 3, num(-32768), num(2147483647), num(math.MinInt64), lead(7), lead(2)),
			obj(top, 1, lead(7), lead(3)),
		},
		Roots: []int{8, -1, 3},
	}
}

// clone shares nothing with a graph but its texts.
func clone(g api.Graph) api.Graph {
	x := api.Graph{S: api.Schema{T: slices.Clone(g.S.T)}, O: slices.Clone(g.O), Roots: slices.Clone(g.Roots)}
	for i := range x.S.T {
		x.S.T[i].F = slices.Clone(x.S.T[i].F)
	}
	for i := range x.O {
		x.O[i].F = slices.Clone(x.O[i].F)
	}
	return x
}

// with is a copy of g, changed.
func with(g api.Graph, change func(*api.Graph)) api.Graph {
	x := clone(g)
	change(&x)
	return x
}

// plain are all parts as one text, with quotes, so that it is another one as soon as a part is.
func plain(g api.Graph) string {
	var b strings.Builder
	for _, t := range g.S.T {
		fmt.Fprintf(&b, "type %q ", t.Name)
		for _, f := range t.F {
			fmt.Fprintf(&b, "field %q %d %q ", f.Name, f.Kind, f.To)
		}
	}
	for _, o := range g.O {
		fmt.Fprintf(&b, "object %d %d ", o.Id, o.T)
		for _, v := range o.F {
			fmt.Fprintf(&b, "value %d %q %d ", v.N, v.S, v.R)
		}
	}
	fmt.Fprint(&b, "roots ", g.Roots)
	return b.String()
}

// countOf is how many objects of such an Id there are, and the type's place of the last one.
func countOf(g api.Graph, id int) (int, int) {
	count, t := 0, 0
	for _, o := range g.O {
		if o.Id == id {
			count, t = count+1, o.T
		}
	}
	return count, t
}

// mayOf is what the chapter's words say of a graph that may be, one by one.
func mayOf(g api.Graph) bool {
	if !schema.May(g.S) || len(g.O) > 8 || len(g.Roots) > 3 {
		return false
	}
	for i, o := range g.O {
		if o.Id < 0 || o.Id > top || i > 0 && g.O[i-1].Id >= o.Id {
			return false
		}
		if o.T < 0 || o.T >= len(g.S.T) || len(o.F) != len(g.S.T[o.T].F) {
			return false
		}
		for k, v := range o.F {
			f := g.S.T[o.T].F[k]
			if !value.Fits(f, v) {
				return false
			}
			if f.Kind == 5 && v.R != -1 {
				if count, t := countOf(g, v.R); count == 0 || t < 0 || t >= len(g.S.T) || g.S.T[t].Name != f.To {
					return false
				}
			}
		}
	}
	for _, id := range g.Roots {
		if count, _ := countOf(g, id); id != -1 && count == 0 {
			return false
		}
	}
	return true
}

// reachOf is P8.2's Reach: what is come to by one step more, as often as there are objects.
func reachOf(g api.Graph) []int {
	if !mayOf(g) {
		return nil
	}
	ids := slices.DeleteFunc(slices.Clone(g.Roots), func(id int) bool { return id == -1 })
	for range g.O {
		for _, o := range g.O {
			for k, v := range o.F {
				if slices.Contains(ids, o.Id) && g.S.T[o.T].F[k].Kind == 5 && v.R != -1 {
					ids = append(ids, v.R)
				}
			}
		}
		slices.Sort(ids)
		ids = slices.Compact(ids)
	}
	return ids
}

// sweepOf is P8.2's Sweep.
func sweepOf(g api.Graph) api.Graph {
	if !mayOf(g) {
		return api.Graph{}
	}
	x, ids := clone(g), reachOf(g)
	x.O = nil
	for _, o := range g.O {
		if slices.Contains(ids, o.Id) {
			x.O = append(x.O, obj(o.Id, o.T, slices.Clone(o.F)...))
		}
	}
	return x
}

// newOf is P8.3, word by word.
func newOf(g api.Graph, t int) (api.Graph, int, api.Errno) {
	x, id := clone(g), 0
	if len(g.O) > 0 {
		id = g.O[len(g.O)-1].Id + 1
	}
	switch {
	case !mayOf(g):
		return x, -1, 1
	case t < 0 || t > len(g.S.T)-1:
		return x, -1, 6
	case len(g.O) == 8 || id == top+1:
		return x, -1, 8
	}
	o := obj(id, t)
	for _, f := range g.S.T[t].F {
		if f.Kind == 5 {
			o.F = append(o.F, lead(-1))
		} else {
			o.F = append(o.F, api.Val{})
		}
	}
	x.O = append(x.O, o)
	return x, id, 0
}

// setOf is P8.4's Set: whether g may have that value there is told by the graph that has it.
func setOf(g api.Graph, id, field int, v api.Val) (api.Graph, api.Errno) {
	if !mayOf(g) {
		return g, 1
	}
	for i, o := range g.O {
		if o.Id == id && field >= 0 && field < len(o.F) {
			x := with(g, func(x *api.Graph) { x.O[i].F[field] = v })
			if !mayOf(x) {
				return g, 6
			}
			return x, 0
		}
	}
	return g, 11
}

// rootOf is P8.4's Root: whether id may be a root is told by the graph that has it.
func rootOf(g api.Graph, i, id int) (api.Graph, api.Errno) {
	if !mayOf(g) {
		return g, 1
	}
	if i < 0 || i > 2 || i > len(g.Roots) {
		return g, 11
	}
	x := with(g, func(x *api.Graph) {
		if i == len(x.Roots) {
			x.Roots = append(x.Roots, 0)
		}
		x.Roots[i] = id
	})
	if !mayOf(x) {
		return g, 11
	}
	return x, 0
}

// chance hands on numbers that look like chance, the same ones each time.
func chance(seed uint64) func(below int) int {
	return func(below int) int {
		seed = seed*6364136223846793005 + 1442695040888963407
		return int(seed >> 33 % uint64(below))
	}
}

// byChance is a graph of about as many objects as may be; most may be, some not.
func byChance(next func(int) int) api.Graph {
	schemas := []string{"a{n:i8,o:*b}b{o:*a}", "a{o:*a,n:i64,s:t,p:*a}", "a{n:i8,o:*b,s:t}b{o:*a,p:*b}c{}d{h:i16,w:i32,l:i64,a:*a,c:*c}", "a{}", "a{o:*b,p:*b,q:*b,r:*c,s:*d}b{o:*a}c{o:*c}d{}"}
	g := api.Graph{S: read(schemas[next(len(schemas))])}
	id := next(3)
	for range next(9) {
		o := obj(id, next(len(g.S.T)))
		id += 1 + next(2)*next(4)
		g.O = append(g.O, o)
	}
	for i := range g.O {
		for _, f := range g.S.T[g.O[i].T].F {
			g.O[i].F = append(g.O[i].F, valueByChance(next, g, f))
		}
	}
	for range next(4) {
		id := -1
		if len(g.O) > 0 && next(5) > 0 {
			id = g.O[next(len(g.O))].Id
		}
		g.Roots = append(g.Roots, id)
	}
	if next(4) == 0 {
		spot(next, &g)
	}
	return g
}

// valueByChance is one that g may have there.
func valueByChance(next func(int) int, g api.Graph, f api.Field) api.Val {
	switch f.Kind {
	case 4:
		return text("123456789012"[:next(13)])
	case 5:
		ids := []int{-1}
		for _, o := range g.O {
			if g.S.T[o.T].Name == f.To {
				ids = append(ids, o.Id)
			}
		}
		return lead(ids[next(len(ids))])
	}
	return num(next(256) - 128)
}

// spot changes one part, so that most graphs may not be behind it.
func spot(next func(int) int, g *api.Graph) {
	few := []int{-2, -1, 0, 1, 2, 3, 5, 8, 128, top, top + 1, math.MinInt, math.MaxInt}
	n := few[next(len(few))]
	if len(g.O) == 0 {
		g.Roots = append(g.Roots, n)
		return
	}
	o := &g.O[next(len(g.O))]
	switch next(7) {
	case 0:
		o.Id = n
	case 1:
		o.T = n
	case 2:
		o.F = append(o.F, lead(n))
	case 3:
		o.F = o.F[:len(o.F)/2]
	case 4:
		g.Roots = append(g.Roots, n)
	default:
		if len(o.F) > 0 {
			o.F[next(len(o.F))] = []api.Val{num(n), lead(n), {N: n, R: n}, {S: "a", R: n}, text("1234567890123")}[next(5)]
		}
	}
}

// good are graphs that may be.
func good() []api.Graph {
	list := []api.Graph{
		of(), rings(), row(), rich(), {S: read("a{}")}, {S: read("a{}"), O: []api.Obj{obj(0, 0), obj(1, 0)}, Roots: []int{1, 0}},
		rooted(of(), -1), rooted(of(), -1, -1, -1),
		of(obj(0, 0, num(1), lead(-1))), of(obj(top, 1, lead(-1))), of(obj(0, 1, lead(-1)), obj(top, 1, lead(-1))), of(obj(top-1, 1, lead(-1)), obj(top, 1, lead(-1))),
		of(obj(4, 0, num(0), lead(9)), obj(9, 1, lead(4))),                          // ahead and behind
		rooted(of(obj(4, 0, num(0), lead(9)), obj(9, 1, lead(4))), 9, 4, 9),         // one root twice
		rooted(rings(pair(5, 5, 5)), 5, 5, 5), rooted(rings(pair(5, 5, -1)), -1, 5), // to itself
		rooted(row(), 0), rooted(row(), 70, 0, -1),
	}
	return list
}

// bad are graphs that may not be.
func bad() []api.Graph {
	list := []api.Graph{
		{}, {O: []api.Obj{obj(0, 0)}}, {Roots: []int{-1}},
		{S: api.Schema{T: []api.Type{{Name: "1"}}}},
		{S: api.Schema{T: []api.Type{{Name: "a"}, {Name: "a"}}}, O: []api.Obj{obj(0, 0)}},
		{S: api.Schema{T: []api.Type{{Name: "a", F: []api.Field{{Name: "o", Kind: 5, To: "b"}}}}}, O: []api.Obj{obj(0, 0, lead(-1))}},
		{S: api.Schema{T: []api.Type{{Name: "a", F: []api.Field{{Name: "n", Kind: 6}}}}}, O: []api.Obj{obj(0, 0, num(0))}},
		with(row(), func(g *api.Graph) { g.O = append(g.O, pair(80, -1, -1)) }), // nine objects
		of(obj(-1, 1, lead(-1))), of(obj(-1, 1, lead(-1)), obj(0, 1, lead(-1))), of(obj(-2, 1, lead(-1))), of(obj(math.MinInt, 1, lead(-1))),
		of(obj(top+1, 1, lead(-1))), of(obj(0, 1, lead(-1)), obj(top+1, 1, lead(-1))), of(obj(math.MaxInt, 1, lead(-1))),
		of(obj(0, 1, lead(-1)), obj(0, 1, lead(-1))), of(obj(1, 1, lead(-1)), obj(0, 1, lead(-1))), of(obj(0, 1, lead(-1)), obj(2, 1, lead(-1)), obj(1, 1, lead(-1))),
		of(obj(top, 1, lead(-1)), obj(top, 1, lead(-1))), of(obj(0, 1, lead(-1)), obj(3, 1, lead(-1)), obj(0, 1, lead(-1))),
		of(obj(0, -1, lead(-1))), of(obj(0, 2, lead(-1))), of(obj(0, 2)), of(obj(0, -1)), of(obj(0, math.MinInt)), of(obj(0, math.MaxInt)),
		of(obj(0, 1)), of(obj(0, 1, lead(-1), lead(-1))), of(obj(0, 0, num(0))), of(obj(0, 0)), of(obj(0, 0, num(0), lead(-1), num(0))),
		of(obj(0, 0, num(128), lead(-1))), of(obj(0, 0, num(-129), lead(-1))), of(obj(0, 0, lead(-1), num(0))), of(obj(0, 0, text("a"), lead(-1))), of(obj(0, 0, num(0), text("a"))),
		of(obj(0, 0, num(0), api.Val{N: 1, R: -1})), of(obj(0, 0, api.Val{R: 1}, lead(-1))), of(obj(0, 0, api.Val{R: -1}, lead(-1))),
		of(obj(0, 1, lead(-2))), of(obj(0, 1, lead(0))), of(obj(0, 1, lead(1))), of(obj(0, 1, lead(1)), obj(1, 1, lead(-1))), of(obj(0, 1, lead(-1)), obj(1, 1, lead(0))),
		of(obj(0, 0, num(0), lead(0))), of(obj(0, 0, num(0), lead(1)), obj(1, 0, num(0), lead(-1))), of(obj(0, 0, num(0), lead(2)), obj(1, 1, lead(0))),
		of(obj(0, 1, lead(top))), of(obj(0, 1, lead(top+1))), rings(pair(5, 0, -1)), rings(pair(5, -1, 4)), rings(pair(0, 1, -1)),
		rooted(of(), 0), rooted(of(), -2), rooted(of(), -1, -1, -1, -1), rooted(of(), -1, 0), rooted(of(), -1, -1, -2), rooted(of(), math.MinInt), rooted(of(), math.MaxInt),
		rooted(row(), 0, 10, 20, 30), rooted(row(), 1), rooted(row(), 0, 71), rooted(row(), 0, 10, -2), rooted(row(), 8),
		with(rich(), func(g *api.Graph) { g.O[4].F[4] = lead(7) }), with(rich(), func(g *api.Graph) { g.O[4].F[3] = lead(2) }), with(rich(), func(g *api.Graph) { g.S.T = g.S.T[:3] }),
	}
	return list
}

// near are graphs that differ in one part alone from rich, and from each other.
func near() []api.Graph {
	list := []api.Graph{rich()}
	add := func(change func(*api.Graph)) { list = append(list, with(rich(), change)) }
	add(func(g *api.Graph) { g.S.T[0].Name = "e" })
	add(func(g *api.Graph) { g.S.T[0].F[0].Name = "m" })
	add(func(g *api.Graph) { g.S.T[0].F[0].Kind = 1 })
	add(func(g *api.Graph) { g.S.T[0].F[1].To = "a" })
	add(func(g *api.Graph) { g.S.T[3].F = g.S.T[3].F[:4] })
	add(func(g *api.Graph) { g.S.T = g.S.T[:3] })
	add(func(g *api.Graph) { g.S.T[0], g.S.T[1] = g.S.T[1], g.S.T[0] })
	add(func(g *api.Graph) { g.S = api.Schema{} })
	for i := range rich().O {
		add(func(g *api.Graph) { g.O[i].Id += 100 })
		add(func(g *api.Graph) { g.O[i].T += 100 })
		add(func(g *api.Graph) { g.O[i].F = append(g.O[i].F, api.Val{}) })
		add(func(g *api.Graph) { g.O = slices.Delete(g.O, i, i+1) })
		for k := range rich().O[i].F {
			add(func(g *api.Graph) { g.O[i].F[k].N += 100 })
			add(func(g *api.Graph) { g.O[i].F[k].S += "x" })
			add(func(g *api.Graph) { g.O[i].F[k].R += 100 })
			add(func(g *api.Graph) { g.O[i].F = slices.Delete(g.O[i].F, k, k+1) })
		}
	}
	add(func(g *api.Graph) { g.O[0], g.O[1] = g.O[1], g.O[0] })
	add(func(g *api.Graph) { g.O[4].F[0], g.O[4].F[1] = g.O[4].F[1], g.O[4].F[0] })
	add(func(g *api.Graph) { g.O = append(g.O, obj(top+1, 2)) })
	add(func(g *api.Graph) { g.O = append(g.O, g.O[5]) })
	add(func(g *api.Graph) { g.O = nil })
	for i := range rich().Roots {
		add(func(g *api.Graph) { g.Roots[i] += 100 })
		add(func(g *api.Graph) { g.Roots = slices.Delete(g.Roots, i, i+1) })
	}
	add(func(g *api.Graph) { g.Roots[0], g.Roots[2] = g.Roots[2], g.Roots[0] })
	add(func(g *api.Graph) { g.Roots = append(g.Roots, -1) })
	add(func(g *api.Graph) { g.Roots = append(g.Roots, 3) })
	add(func(g *api.Graph) { g.Roots = nil })
	return list
}

// someGraphs are those that may be, that may not be, and that differ little.
func someGraphs() []api.Graph { return slices.Concat(good(), bad(), near()) }

// small hands on all graphs of at most two objects of some Ids, types' places and Refs, and at most two roots.
func small(yield func(api.Graph)) {
	var list []api.Obj
	for _, id := range []int{-1, 0, 1, top, top + 1} {
		for t := -1; t <= 2; t++ {
			for _, r := range []int{-2, -1, 0, 1, top} {
				list = append(list, obj(id, t, lead(r)))
			}
		}
	}
	all := [][]api.Obj{nil}
	for _, o := range list {
		all = append(all, []api.Obj{o})
		for _, p := range list {
			all = append(all, []api.Obj{o, p})
		}
	}
	roots := [][]int{nil, {-2}, {-1}, {0}, {1}, {top}, {-1, 0}, {1, 1}, {0, top}}
	for _, s := range []string{"a{o:*b}b{o:*a}", "a{o:*a}b{o:*b}"} {
		for _, l := range all {
			for _, r := range roots {
				yield(api.Graph{S: read(s), O: l, Roots: r})
			}
		}
	}
}

func wantMay(t testing.TB, g api.Graph, want bool) {
	t.Helper()
	if got := May(g); got != want {
		t.Fatalf("May(%v) = %v", g, got)
	}
}

// wantSwept holds Reach and Sweep against what is said.
func wantSwept(t testing.TB, g api.Graph, ids []int, swept api.Graph) {
	t.Helper()
	if got := Reach(g); !slices.Equal(got, ids) {
		t.Fatalf("Reach(%v) = %v, not %v", g, got, ids)
	}
	if got := Sweep(g); plain(got) != plain(swept) {
		t.Fatalf("Sweep(%v) = %v, not %v", g, got, swept)
	}
}

func wantNew(t testing.TB, g api.Graph, at int, want api.Graph, wantId int, wantE api.Errno) {
	t.Helper()
	if x, id, e := New(g, at); e != wantE || id != wantId || plain(x) != plain(want) {
		t.Fatalf("New(%v, %d) = %v, %d, %d, not %v, %d, %d", g, at, x, id, e, want, wantId, wantE)
	}
}

func wantSet(t testing.TB, g api.Graph, id, field int, v api.Val, want api.Graph, wantE api.Errno) {
	t.Helper()
	if x, e := Set(g, id, field, v); e != wantE || plain(x) != plain(want) {
		t.Fatalf("Set(%v, %d, %d, %v) = %v, %d, not %v, %d", g, id, field, v, x, e, want, wantE)
	}
}

func wantRoot(t testing.TB, g api.Graph, i, id int, want api.Graph, wantE api.Errno) {
	t.Helper()
	if x, e := Root(g, i, id); e != wantE || plain(x) != plain(want) {
		t.Fatalf("Root(%v, %d, %d) = %v, %d, not %v, %d", g, i, id, x, e, want, wantE)
	}
}

// wantAsSaid holds May, Find, Reach and Sweep against the words, and tells whether the graph may be.
func wantAsSaid(t testing.TB, g api.Graph) bool {
	t.Helper()
	may := mayOf(g)
	wantMay(t, g, may)
	wantSwept(t, g, reachOf(g), sweepOf(g))
	for place, o := range g.O {
		first := slices.IndexFunc(g.O, func(p api.Obj) bool { return p.Id == o.Id })
		if got := Find(g, o.Id); got != first || got > place {
			t.Fatalf("Find(%v, %d) = %d, not %d", g, o.Id, got, first)
		}
	}
	return may
}

// P8.1: May, by hand.
func TestMay(t *testing.T) {
	for _, g := range good() {
		wantMay(t, g, true)
	}
	for _, g := range bad() {
		wantMay(t, g, false)
	}
}

// P8.1: how many objects and roots there may be.
func TestMayByHowMany(t *testing.T) {
	for n := range 12 {
		g := rings()
		for i := range n {
			g.O = append(g.O, pair(i, -1, -1))
		}
		wantMay(t, g, n <= 8)
		for roots := range 6 {
			for _, id := range []int{-1, 0} {
				wantMay(t, rooted(g, slices.Repeat([]int{id}, roots)...), n <= 8 && roots <= 3 && (id == -1 || n > 0 || roots == 0))
			}
		}
	}
}

// P8.1: Ids, types' places, and how many values, one at a time.
func TestMayByParts(t *testing.T) {
	for _, id := range []int{math.MinInt, -top, -2, -1, 0, 1, 6, 7, 8, 100, top - 1, top, top + 1, 1 << 31, 1 << 32, 1<<32 + 5, math.MaxInt} {
		wantMay(t, of(obj(id, 1, lead(-1))), id >= 0 && id <= top)
		wantMay(t, of(obj(id, 1, lead(-1)), obj(7, 1, lead(-1))), id >= 0 && id < 7)
		wantMay(t, of(obj(7, 1, lead(-1)), obj(id, 1, lead(-1))), id > 7 && id <= top)
		wantMay(t, of(obj(7, 0, num(0), lead(id))), id == -1)
		wantMay(t, of(obj(6, 0, num(0), lead(-1)), obj(7, 0, num(0), lead(id)), obj(8, 1, lead(-1))), id == -1 || id == 8)
		wantMay(t, rooted(of(obj(7, 1, lead(-1))), id), id == -1 || id == 7)
		wantMay(t, rooted(of(obj(7, 1, lead(-1))), 7, -1, id), id == -1 || id == 7)
	}
	for at := -300; at <= 300; at++ {
		wantMay(t, api.Graph{S: read("a{}b{}c{}"), O: []api.Obj{obj(0, at)}}, at >= 0 && at <= 2)
		wantMay(t, api.Graph{S: read("a{}"), O: []api.Obj{obj(0, 0), obj(1, at)}}, at == 0)
	}
	for n := range 10 {
		wantMay(t, api.Graph{S: read("a{a:t,b:t,c:t,d:t,e:t}"), O: []api.Obj{obj(0, 0, make([]api.Val, n)...)}}, n == 5)
		wantMay(t, api.Graph{S: read("a{a:t}b{a:t,b:t}"), O: []api.Obj{obj(0, 0, make([]api.Val, 1)...), obj(1, 1, make([]api.Val, n)...)}}, n == 2)
	}
}

// P8.1: a Ref is held against the type by its field's To, whatever place that has.
func TestMayByWhatRefsLeadTo(t *testing.T) {
	names := []string{"a", "b", "c", "d"}
	for to := range 4 {
		g := api.Graph{S: read("a{o:*" + names[to] + "}b{}c{}d{}"), O: []api.Obj{obj(3, 0, lead(-1)), obj(4, 1), obj(5, 2), obj(6, 3)}}
		for r := -3; r <= 9; r++ {
			g.O[0].F[0].R = r
			wantMay(t, g, r == -1 || r == to+3)
		}
	}
}

// P8.1, over all small graphs, and many by chance.
func TestMayAgainstTheWords(t *testing.T) {
	count := map[bool]int{}
	small(func(g api.Graph) {
		may := mayOf(g)
		count[may]++
		wantMay(t, g, may)
	})
	for _, g := range someGraphs() {
		wantMay(t, g, mayOf(g))
	}
	next := chance(81)
	for range 20000 {
		g := byChance(next)
		count[mayOf(g)]++
		wantMay(t, g, mayOf(g))
	}
	if count[true] < 5000 || count[false] < 5000 {
		t.Error("too few graphs were tried:", count)
	}
}

// P8.1: Same of graphs that differ in one part alone, in order, and in how many there are.
func TestSameOfOthers(t *testing.T) {
	for i, a := range near() {
		for j, b := range near() {
			if got := Same(a, b); got != (i == j) {
				t.Fatalf("Same(%v, %v) = %v", a, b, got)
			}
		}
	}
}

// P8.1: whether two may be has no say.
func TestSameAgainstTheWords(t *testing.T) {
	list := someGraphs()
	for _, a := range list {
		for _, b := range list {
			if got := Same(a, clone(b)); got != (plain(a) == plain(b)) {
				t.Fatalf("Same(%v, %v) = %v", a, b, got)
			}
		}
	}
}

// P8.1, R6: lists that are nil, or empty.
func TestSameOfEmptyLists(t *testing.T) {
	empty := api.Graph{S: api.Schema{T: []api.Type{}}, O: []api.Obj{}, Roots: []int{}}
	bare := api.Graph{S: api.Schema{T: []api.Type{{Name: "a", F: []api.Field{}}}}, O: []api.Obj{{F: []api.Val{}}}}
	null := api.Graph{S: api.Schema{T: []api.Type{{Name: "a"}}}, O: []api.Obj{{}}}
	if !Same(api.Graph{}, empty) || !Same(empty, api.Graph{}) || !Same(bare, null) || !Same(null, bare) || Same(bare, empty) || Same(api.Graph{}, null) {
		t.Error("lists that are nil, or empty, are not the same")
	}
	wantMay(t, bare, true)
	wantMay(t, null, true)
	bare.Roots = []int{}
	wantSwept(t, bare, nil, api.Graph{S: null.S})
	wantSet(t, bare, 0, 0, num(0), bare, 11)
}

// P8.1: Find of Ids that are there, more than once, and not.
func TestFind(t *testing.T) {
	many := api.Graph{O: []api.Obj{obj(5, 0), obj(-1, 9), obj(5, 1), obj(3, 0, num(1)), obj(-1, 0), obj(math.MaxInt, 0), obj(math.MinInt, 0), obj(3, 0)}}
	for id, want := range map[int]int{5: 0, -1: 1, 3: 3, math.MaxInt: 5, math.MinInt: 6, 0: -1, 1: -1, 2: -1, 4: -1, 6: -1, -2: -1, top: -1, math.MaxInt - 1: -1} {
		if got := Find(many, id); got != want {
			t.Errorf("Find of %d is %d, not %d", id, got, want)
		}
	}
	for id, want := range map[int]int{0: 0, 2: 1, 3: 2, 7: 3, 8: 4, top: 5, -1: -1, 1: -1, 4: -1, 5: -1, 9: -1, top + 1: -1} {
		if got := Find(rich(), id); got != want {
			t.Errorf("Find of %d is %d, not %d", id, got, want)
		}
	}
	for _, g := range []api.Graph{{}, of(), rooted(of(), 0, -1)} {
		for _, id := range []int{-1, 0, 1, math.MinInt, math.MaxInt} {
			if got := Find(g, id); got != -1 {
				t.Errorf("Find(%v, %d) = %d", g, id, got)
			}
		}
	}
	long := api.Graph{}
	for i := range 100 {
		long.O = append(long.O, obj(i/2, 0))
	}
	for i := range 50 {
		if got := Find(long, i); got != 2*i {
			t.Errorf("Find of %d is %d", i, got)
		}
	}
}

// P8.2, by hand.
func TestReachAndSweep(t *testing.T) {
	two := of(obj(0, 0, num(0), lead(-1)), obj(1, 1, lead(-1)))
	wantSwept(t, rooted(two, 0), []int{0}, rooted(of(obj(0, 0, num(0), lead(-1))), 0)) // the chapter's example
	loop := rings(pair(1, 4, -1), pair(4, -1, 9), pair(9, 1, -1), pair(10, 1, 9), pair(11, 11, 12), pair(12, -1, 11))
	for _, x := range []struct {
		g    api.Graph
		want []int
	}{
		{two, nil}, {rooted(two, -1), nil}, {rooted(two, -1, -1, -1), nil}, {rooted(two, 1, 0), []int{0, 1}}, {rooted(two, -1, 1), []int{1}}, {rooted(two, 1, 1, 1), []int{1}},
		{rooted(of(), -1), nil}, {of(), nil},
		{rooted(loop, 1), []int{1, 4, 9}}, {rooted(loop, 4), []int{1, 4, 9}}, {rooted(loop, 9, 9), []int{1, 4, 9}}, // a ring; 10 leads to it, but is not come to
		{rooted(loop, 10), []int{1, 4, 9, 10}}, {rooted(loop, 11), []int{11, 12}}, {rooted(loop, 12, -1, 10), []int{1, 4, 9, 10, 11, 12}},
		{rooted(rings(pair(3, 3, 3), pair(4, 3, 4)), 3), []int{3}}, {rooted(rings(pair(3, 3, 3), pair(4, 3, 4)), 4), []int{3, 4}}, // to themselves
		{rooted(rings(pair(0, 1, 2), pair(1, 3, -1), pair(2, -1, 3), pair(3, -1, -1)), 0), []int{0, 1, 2, 3}}, // 3 in two ways
		{rooted(row(), 0), []int{0, 10, 20, 30, 40, 50, 60, 70}}, {rooted(row(), 70), []int{70}}, {rooted(row(), 50, -1, 60), []int{50, 60, 70}},
		{rich(), []int{0, 2, 3, 7, 8}}, {rooted(rich(), 3), []int{0, 3}}, {rooted(rich(), top), []int{0, 3, 7, top}}, {rooted(rich(), 2, 7), []int{2, 7}},
	} {
		kept := clone(x.g)
		kept.O = slices.DeleteFunc(kept.O, func(o api.Obj) bool { return !slices.Contains(x.want, o.Id) })
		wantSwept(t, x.g, x.want, kept)
	}
}

// P8.2: numbers and texts lead nowhere, whatever Id is like them: R is 0 there.
func TestOnlyRefsLead(t *testing.T) {
	g := rings(pair(0, -1, -1), obj(1, 0, lead(-1), num(2), text("3"), lead(-1)), pair(2, -1, -1), pair(3, -1, -1))
	kept := rings(g.O[1])
	wantSwept(t, rooted(g, 1), []int{1}, rooted(kept, 1))
	flat := api.Graph{S: read("a{a:i8,b:i16,c:i32,d:i64,e:t}"), O: []api.Obj{obj(0, 0, make([]api.Val, 5)...), obj(1, 0, make([]api.Val, 5)...)}, Roots: []int{1}}
	wantSwept(t, flat, []int{1}, with(flat, func(g *api.Graph) { g.O = g.O[1:] }))
}

// P8.2: nothing of a graph that may not be.
func TestReachOfWhatMayNotBe(t *testing.T) {
	for _, g := range bad() {
		wantSwept(t, g, nil, api.Graph{})
	}
	for i := range row().O {
		g := rooted(row(), 0)
		g.O[i].F[1].R = 1
		wantSwept(t, g, nil, api.Graph{})
	}
}

// P8.2, over all ways in which three objects can lead to one another, with all of up to two roots.
func TestReachOfAllThree(t *testing.T) {
	ids := []int{-1, 4, 5, 7}
	roots := [][]int{nil}
	for _, a := range ids {
		roots = append(roots, []int{a})
		for _, b := range ids {
			roots = append(roots, []int{a, b})
		}
	}
	for n := range 1 << 12 {
		leads := func(i int) int { return ids[n>>(2*i)&3] }
		g := rings(pair(4, leads(0), leads(1)), pair(5, leads(2), leads(3)), pair(7, leads(4), leads(5)))
		for _, r := range roots {
			g.Roots = r
			wantSwept(t, g, reachOf(g), sweepOf(g))
		}
	}
}

// P8.1, P8.2, over graphs by hand, and many by chance.
func TestAgainstTheWords(t *testing.T) {
	for _, g := range someGraphs() {
		wantAsSaid(t, g)
	}
	next, sizes := chance(82), map[int]int{}
	for range 20000 {
		g := byChance(next)
		if wantAsSaid(t, g) {
			sizes[len(reachOf(g))]++
		}
	}
	for n := range 9 {
		if sizes[n] < 50 {
			t.Errorf("only %d graphs of which %d objects are come to were tried", sizes[n], n)
		}
	}
}

// P8.3: OK, of each type, with no object, with seven, and behind an Id of 2^30 less 1.
func TestNew(t *testing.T) {
	g := api.Graph{S: rich().S}
	zeros := [][]api.Val{{{}, lead(-1), {}}, {lead(-1), lead(-1)}, {}, {{}, {}, {}, lead(-1), lead(-1)}}
	for at, z := range zeros {
		wantNew(t, g, at, with(g, func(x *api.Graph) { x.O = []api.Obj{obj(0, at, z...)} }), 0, 0)
		wantNew(t, rich(), at, rich(), -1, 8)
		six := with(rich(), func(x *api.Graph) { x.O[5].Id = top - 1 })
		wantNew(t, six, at, with(six, func(x *api.Graph) { x.O = append(x.O, obj(top, at, z...)) }), top, 0)
	}
	for id := range 8 {
		more := with(g, func(x *api.Graph) { x.O = append(x.O, obj(id, id%4, zeros[id%4]...)) })
		wantNew(t, g, id%4, more, id, 0)
		wantNew(t, rooted(g, -1, -1), id%4, rooted(more, -1, -1), id, 0)
		g = more
	}
	wantNew(t, g, 0, g, -1, 8)
	gap := of(obj(3, 1, lead(-1)), obj(9, 1, lead(-1)))
	wantNew(t, gap, 1, of(obj(3, 1, lead(-1)), obj(9, 1, lead(-1)), obj(10, 1, lead(-1))), 10, 0)
}

// P8.3: each error, and two of them at once.
func TestNewErrors(t *testing.T) {
	last := of(obj(top, 1, lead(-1)))
	two := of(obj(0, 1, lead(-1)), obj(top, 1, lead(-1)))
	nine := with(row(), func(g *api.Graph) { g.O = append(g.O, pair(80, -1, -1)) })
	for _, x := range []struct {
		g    api.Graph
		at   int
		want api.Errno
	}{
		{of(), -1, 6}, {of(), 2, 6}, {of(), math.MinInt, 6}, {of(), math.MaxInt, 6}, {rings(), 1, 6}, {rings(), -1, 6},
		{rich(), 4, 6}, {rich(), 3, 8}, {with(rich(), func(g *api.Graph) { g.O = g.O[:5] }), 4, 6},
		{row(), 0, 8}, {rooted(row(), 0, 10, 20), 0, 8}, {last, 0, 8}, {last, 1, 8}, {two, 0, 8},
		{row(), 1, 6}, {row(), -1, 6}, {last, 2, 6}, {last, -1, 6}, // ahead of being full
		{nine, 0, 1}, {nine, 1, 1}, {of(obj(top+1, 1, lead(-1))), 0, 1}, {of(obj(top+1, 1, lead(-1))), 2, 1},
		{api.Graph{}, 0, 1}, {api.Graph{}, -1, 1}, {rooted(row(), 1), 0, 1}, {rooted(of(), 0), 2, 1},
	} {
		wantNew(t, x.g, x.at, x.g, -1, x.want)
	}
	for _, g := range bad() {
		for _, at := range []int{-1, 0, 1, 4, math.MaxInt} {
			wantNew(t, g, at, g, -1, 1)
		}
	}
}

// P8.4: Set of each kind: what fits, and what does not.
func TestSetOfEachKind(t *testing.T) {
	s := read("a{a:i8,b:i16,c:i32,d:i64,e:t}b{o:*a}")
	g := api.Graph{S: s, O: []api.Obj{obj(2, 0, num(1), num(2), num(3), num(4), text("x")), obj(6, 1, lead(-1)), obj(7, 0, make([]api.Val, 5)...)}, Roots: []int{6, -1}}
	for _, x := range []struct {
		field    int
		fit, not []api.Val
	}{
		{0, []api.Val{num(-128), num(127), num(0), num(1)}, []api.Val{num(128), num(-129), text("a"), lead(-1), lead(2), {N: 1, R: 7}}},
		{1, []api.Val{num(-32768), num(32767)}, []api.Val{num(32768), num(-32769), text("a"), lead(-1)}},
		{2, []api.Val{num(math.MinInt32), num(math.MaxInt32)}, []api.Val{num(math.MaxInt32 + 1), num(math.MinInt32 - 1), text("a"), lead(7)}},
		{3, []api.Val{num(math.MinInt64), num(math.MaxInt64)}, []api.Val{text("a"), lead(-1), {N: 5, S: "a"}}},
		{4, []api.Val{text(""), text("a"), text("123456789012"), text("\xff\x00")}, []api.Val{text("1234567890123"), num(1), lead(-1), {S: "a", R: 2}, {S: "a", N: 1}}},
	} {
		for place, id := range map[int]int{0: 2, 2: 7} {
			for _, v := range x.fit {
				wantSet(t, g, id, x.field, v, with(g, func(y *api.Graph) { y.O[place].F[x.field] = v }), 0)
			}
			for _, v := range x.not {
				wantSet(t, g, id, x.field, v, g, 6)
			}
		}
	}
}

// P8.4: Set of a Ref.
func TestSetOfRefs(t *testing.T) {
	g := rooted(of(obj(2, 0, num(5), lead(6)), obj(6, 1, lead(2)), obj(7, 0, num(0), lead(-1)), obj(9, 1, lead(-1))), 9)
	for r := -5; r <= 15; r++ {
		for place, o := range g.O {
			field, to := 1, []int{-1, 6, 9}
			if o.T == 1 {
				field, to = 0, []int{-1, 2, 7}
			}
			if slices.Contains(to, r) {
				wantSet(t, g, o.Id, field, lead(r), with(g, func(x *api.Graph) { x.O[place].F[field].R = r }), 0)
			} else {
				wantSet(t, g, o.Id, field, lead(r), g, 6)
			}
			wantSet(t, g, o.Id, field, api.Val{N: 1, R: r}, g, 6)
			wantSet(t, g, o.Id, field, api.Val{S: "a", R: r}, g, 6)
		}
	}
	for _, r := range []int{top, top + 1, -top, math.MinInt, math.MaxInt, 1<<32 + 6} {
		wantSet(t, g, 2, 1, lead(r), g, 6)
	}
	own := rings(pair(5, -1, -1))
	wantSet(t, own, 5, 3, lead(5), rings(pair(5, -1, 5)), 0) // to itself
	edge := of(obj(0, 0, num(0), lead(-1)), obj(top, 1, lead(-1)))
	wantSet(t, edge, 0, 1, lead(top), with(edge, func(x *api.Graph) { x.O[0].F[1].R = top }), 0)
}

// P8.4: Set's errors, and two or three of them at once.
func TestSetErrors(t *testing.T) {
	g := rooted(of(obj(2, 0, num(5), lead(6)), obj(6, 1, lead(2))), -1, 2)
	for _, v := range []api.Val{num(0), lead(-1), lead(2), num(200), text("a"), {N: 1, S: "a", R: 1}} { // some fit, some do not
		for _, id := range []int{-1, -2, 0, 1, 3, 5, 7, top, math.MinInt, math.MaxInt} {
			for _, field := range []int{-1, 0, 1, 2, math.MaxInt} {
				wantSet(t, g, id, field, v, g, 11)
			}
		}
		for _, field := range []int{-1, -2, 2, 3, 5, math.MinInt, math.MaxInt} {
			wantSet(t, g, 2, field, v, g, 11)
			wantSet(t, g, 6, field, v, g, 11)
		}
		wantSet(t, g, 6, 1, v, g, 11) // a place of another type's
		wantSet(t, of(), 0, 0, v, of(), 11)
		wantSet(t, rich(), 2, 0, v, rich(), 11) // a type without fields
	}
	for _, x := range bad() {
		for _, v := range []api.Val{{}, lead(-1), {N: 1, S: "a", R: 1}} {
			for _, id := range []int{-1, 0, 1, 5, math.MinInt} {
				for _, field := range []int{-1, 0, 1, 9} {
					wantSet(t, x, id, field, v, x, 1)
				}
			}
		}
	}
}

// P8.4: Root, OK and each error.
func TestRoot(t *testing.T) {
	bare := of(obj(2, 0, num(5), lead(6)), obj(6, 1, lead(2)))
	for _, roots := range [][]int{nil, {-1}, {2}, {2, 6}, {-1, -1}, {6, 6, 2}, {-1, -1, -1}, {2, -1, 6}} {
		g := rooted(bare, roots...)
		for _, i := range []int{math.MinInt, -2, -1, 0, 1, 2, 3, 4, math.MaxInt} {
			for _, id := range []int{math.MinInt, -2, -1, 0, 1, 2, 3, 5, 6, 7, top, math.MaxInt} {
				if i < 0 || i > 2 || i > len(roots) || id != -1 && id != 2 && id != 6 {
					wantRoot(t, g, i, id, g, 11)
					continue
				}
				other := append(slices.Clone(roots), id)
				if i < len(roots) {
					other = slices.Clone(roots)
					other[i] = id
				}
				wantRoot(t, g, i, id, rooted(bare, other...), 0)
			}
		}
	}
	wantRoot(t, of(), 0, -1, rooted(of(), -1), 0)
	wantRoot(t, of(), 0, 0, of(), 11)
	edge := of(obj(0, 1, lead(-1)), obj(top, 1, lead(-1)))
	wantRoot(t, edge, 0, 0, rooted(edge, 0), 0)
	wantRoot(t, edge, 0, top, rooted(edge, top), 0)
	for _, g := range bad() {
		for _, i := range []int{-1, 0, 1, 2, 3} {
			for _, id := range []int{-2, -1, 0, 1, 2} {
				wantRoot(t, g, i, id, g, 1)
			}
		}
	}
}

// asked are New, Set and Root with all that is near an edge, held against the words; it tells how often each error is answered.
func asked(t testing.TB, g api.Graph, count map[string]int) {
	t.Helper()
	tell := func(call string, e api.Errno, x api.Graph) {
		count[fmt.Sprint(call, e)]++
		if e == 0 && !mayOf(x) {
			t.Fatalf("%s of %v makes what may not be: %v", call, g, x)
		}
	}
	for at := -1; at <= len(g.S.T); at++ {
		x, id, e := newOf(g, at)
		wantNew(t, g, at, x, id, e)
		tell("New", e, x)
	}
	ids := []int{-2, -1, 0, 1, top}
	for _, o := range g.O {
		ids = append(ids, o.Id)
	}
	for _, id := range ids {
		for i := -1; i <= 3; i++ {
			x, e := rootOf(g, i, id)
			wantRoot(t, g, i, id, x, e)
			tell("Root", e, x)
		}
		for field := -1; field <= 5; field++ {
			for _, v := range []api.Val{num(1), text("a"), num(1 << 20), {N: 1, R: 1}} {
				x, e := setOf(g, id, field, v)
				wantSet(t, g, id, field, v, x, e)
				tell("Set", e, x)
			}
			for _, r := range ids {
				x, e := setOf(g, id, field, lead(r))
				wantSet(t, g, id, field, lead(r), x, e)
				tell("Set", e, x)
			}
		}
	}
}

// P8.3, P8.4, over graphs by hand, and many by chance.
func TestChangesAgainstTheWords(t *testing.T) {
	count := map[string]int{}
	for _, g := range someGraphs() {
		asked(t, g, count)
	}
	next := chance(84)
	for range 100 {
		asked(t, byChance(next), count)
	}
	for _, x := range []string{"New0", "New1", "New6", "New8", "Set0", "Set1", "Set6", "Set11", "Root0", "Root1", "Root11"} {
		if count[x] < 20 {
			t.Errorf("%s was answered only %d times", x, count[x])
		}
	}
	if len(count) != 11 {
		t.Error("other errors were answered:", count)
	}
}

// step is what one call makes of g, with arguments by chance: most of them right, some wrong.
func step(next func(int) int, g api.Graph) api.Graph {
	id, r := next(12)-2, lead(next(12)-2)
	if len(g.O) > 0 && next(8) > 0 {
		id, r = g.O[next(len(g.O))].Id, lead(g.O[next(len(g.O))].Id)
	}
	switch next(10) {
	case 0, 1, 2:
		g, _, _ = New(g, next(6)-1)
	case 3, 4, 5, 6, 7:
		g, _ = Set(g, id, next(7)-1, []api.Val{r, r, r, r, num(next(300) - 150), text("abc"), lead(-1)}[next(7)])
	case 8:
		g, _ = Root(g, next(5)-1, id)
	case 9:
		if next(8) == 0 {
			g = Sweep(g)
		}
	}
	return g
}

// P8.5: what may be stays so behind each call, and what is come to still is, behind a sweep.
func TestWhatMayBeStaysSo(t *testing.T) {
	next, sizes := chance(85), map[int]int{}
	for range 400 {
		g := byChance(next)
		if !mayOf(g) {
			g = rooted(row(), 0)
		}
		for range 60 {
			g = step(next, g)
			if !May(g) || !mayOf(g) {
				t.Fatal("may not be any more:", g)
			}
			once := Sweep(g)
			if !May(once) || !mayOf(once) || !slices.Equal(Reach(once), Reach(g)) || !Same(Sweep(once), once) || !schema.Same(once.S, g.S) || !slices.Equal(once.Roots, g.Roots) {
				t.Fatalf("%v, swept: %v", g, once)
			}
			sizes[len(once.O)]++
		}
	}
	for n := range 9 {
		if sizes[n] < 100 {
			t.Errorf("only %d graphs of %d objects, behind a sweep, were come by", sizes[n], n)
		}
	}
}

// P1, R1: much of everything is taken, and ends soon.
func TestLong(t *testing.T) {
	const count = 1 << 18
	long := strings.Repeat("a", 1<<20)
	chain := rings()
	for i := range count {
		chain.O = append(chain.O, pair(i, i+1, count-i))
	}
	huge := []api.Graph{
		rooted(chain, 0, 1, count-1),
		rooted(row(), make([]int, count)...),
		rooted(of(), slices.Repeat([]int{-1}, count)...),
		{S: api.Schema{T: slices.Repeat([]api.Type{{Name: "a"}}, count)}},
		{S: api.Schema{T: []api.Type{{Name: "a", F: slices.Repeat([]api.Field{{Name: "n"}}, count)}}}},
		{S: api.Schema{T: []api.Type{{Name: long}}}},
		of(obj(0, 0, make([]api.Val, count)...)),
		of(obj(0, 0, text(long), text(long))),
	}
	for i, g := range huge {
		x, e := Root(g, 0, 0)
		y, f := Set(g, 0, 0, text(long))
		z, id, h := New(g, 0)
		if May(g) || e != 1 || f != 1 || h != 1 || id != -1 || !Same(x, g) || !Same(y, g) || !Same(z, g) || len(Reach(g)) != 0 || !Same(Sweep(g), api.Graph{}) {
			t.Error("of much, at place", i)
		}
	}
	if Find(chain, count-1) != count-1 || Find(chain, count) != -1 {
		t.Error("Find of many")
	}
	if x, e := Set(rings(pair(0, -1, -1)), 0, 2, text(long)); e != 6 || !Same(x, rings(pair(0, -1, -1))) {
		t.Error("Set of a long text:", e)
	}
}

// answers are all graphs that the calls answer for g, with and without an error.
func answers(g api.Graph) []api.Graph {
	a, _, _ := New(g, 0)
	b, _, _ := New(g, -1)
	list := []api.Graph{a, b, Sweep(g)}
	ids := []int{-1, 5}
	for _, o := range g.O {
		ids = append(ids, o.Id)
	}
	for _, id := range ids {
		for i := range 4 {
			c, _ := Root(g, i, id)
			d, _ := Set(g, id, i, num(1))
			e, _ := Set(g, id, i, lead(-1))
			f, _ := Set(g, id, i, text("new"))
			list = append(list, c, d, e, f)
		}
	}
	return list
}

// roomy has room behind each list, with something in it.
func roomy[T any](list []T, behind T) []T {
	return append(slices.Clone(list), behind, behind, behind)[:len(list)]
}

func roomyCopy(g api.Graph) api.Graph {
	x := api.Graph{S: api.Schema{T: roomy(g.S.T, api.Type{Name: "z"})}, O: roomy(g.O, obj(99, 99)), Roots: roomy(g.Roots, 99)}
	for i := range x.S.T {
		x.S.T[i].F = roomy(x.S.T[i].F, api.Field{Name: "z"})
	}
	for i := range x.O {
		x.O[i].F = roomy(x.O[i].F, num(99))
	}
	return x
}

// whole is g, with all the room behind its lists.
func whole(g api.Graph) api.Graph {
	x := api.Graph{S: api.Schema{T: slices.Clone(g.S.T[:cap(g.S.T)])}, O: slices.Clone(g.O[:cap(g.O)]), Roots: g.Roots[:cap(g.Roots)]}
	for i := range x.S.T {
		x.S.T[i].F = x.S.T[i].F[:cap(x.S.T[i].F)]
	}
	for i := range x.O {
		x.O[i].F = x.O[i].F[:cap(x.O[i].F)]
	}
	return x
}

// R3: what is handed in stays as it was, also behind its lists' ends.
func TestHandedInStays(t *testing.T) {
	for _, x := range someGraphs() {
		g := roomyCopy(x)
		was := plain(whole(g))
		May(g)
		Same(g, g)
		Find(g, 0)
		Reach(g)
		answers(g)
		if plain(whole(g)) != was || plain(g) != plain(x) {
			t.Fatalf("%v became %v", x, g)
		}
	}
}

// spoil writes over all of a graph, and the room behind it.
func spoil(g api.Graph) {
	for _, t := range g.S.T[:cap(g.S.T)] {
		fill(t.F, api.Field{Name: "spoilt", Kind: 77})
	}
	for _, o := range g.O[:cap(g.O)] {
		fill(o.F, api.Val{N: 77, S: "spoilt", R: 77})
	}
	fill(g.S.T, api.Type{Name: "spoilt"})
	fill(g.O, obj(77, 77))
	fill(g.Roots, 77)
}

func fill[T any](list []T, x T) {
	list = list[:cap(list)]
	for i := range list {
		list[i] = x
	}
}

// R3: what is answered shares nothing with what was handed in, nor with another answer, however it ends.
func TestAnswersAreOnesOwn(t *testing.T) {
	for _, x := range someGraphs() {
		g := roomyCopy(x)
		want := answers(clone(x))
		// One after the other is spoilt: those behind must still be what they were.
		for i, got := range answers(g) {
			if plain(got) != plain(want[i]) {
				t.Fatalf("answer %d of %v shares memory with one ahead", i, x)
			}
			spoil(got)
			if plain(g) != plain(x) {
				t.Fatalf("answer %d of %v shares memory with it", i, x)
			}
		}
		got, ids, wantIds := answers(g), Reach(g), Reach(x)
		spoil(g)
		for i := range got {
			if plain(got[i]) != plain(want[i]) {
				t.Fatalf("answer %d of %v changes with it", i, x)
			}
		}
		if !slices.Equal(ids, wantIds) {
			t.Fatalf("Reach of %v changes with it", x)
		}
		fill(ids, 77)
		wantSwept(t, x, wantIds, sweepOf(x))
	}
}

// R3: no two lists of one answer share memory, also if two of what was handed in do.
func TestListsOfOneAnswer(t *testing.T) {
	values := []api.Val{lead(-1), num(1), text("a"), lead(-1)}
	fields := []api.Field{{Name: "o", Kind: 5, To: "a"}, {Name: "n", Kind: 3}, {Name: "s", Kind: 4}, {Name: "p", Kind: 5, To: "a"}}
	g := api.Graph{S: api.Schema{T: []api.Type{{Name: "a", F: fields}, {Name: "b", F: fields}}}, O: []api.Obj{obj(0, 0, values...), obj(1, 0, values...), obj(2, 1, values...)}, Roots: []int{0, 1, 2}}
	wantMay(t, g, true)
	wantSet(t, g, 1, 1, num(9), with(g, func(x *api.Graph) { x.O[1].F[1].N = 9 }), 0)
	for i, x := range answers(g) {
		was := plain(api.Graph{S: api.Schema{T: x.S.T[1:]}, O: x.O[1:], Roots: x.Roots})
		fill(x.S.T[0].F, api.Field{Name: "spoilt"})
		fill(x.O[0].F, num(77))
		if plain(api.Graph{S: api.Schema{T: x.S.T[1:]}, O: x.O[1:], Roots: x.Roots}) != was {
			t.Errorf("two lists of answer %d share memory", i)
		}
	}
}

// borrowed is a text that lies in bytes that can still be changed.
func borrowed(s string) (string, []byte) {
	b := []byte(s + " ")
	return unsafe.String(&b[0], len(s)), b
}

// R3: nothing of a text that was handed in is kept.
func TestTextsAreNotKept(t *testing.T) {
	for i := range answers(rich()) {
		g := rich()
		var all [][]byte
		lend := func(s *string) {
			lent, b := borrowed(*s)
			*s, all = lent, append(all, b)
		}
		for _, x := range g.S.T {
			for k := range x.F {
				lend(&x.F[k].Name)
				lend(&x.F[k].To)
			}
		}
		for k := range g.S.T {
			lend(&g.S.T[k].Name)
		}
		for _, o := range g.O {
			for k := range o.F {
				lend(&o.F[k].S)
			}
		}
		got := answers(g)[i]
		for _, b := range all {
			fill(b, '?')
		}
		if plain(got) != plain(answers(rich())[i]) {
			t.Fatalf("answer %d keeps a text: %v", i, got)
		}
	}
	lent, b := borrowed("abc")
	g, e := Set(rich(), 0, 2, text(lent))
	fill(b, '?')
	if e != 0 || g.O[0].F[2].S != "abc" {
		t.Errorf("Set keeps the text: %q, %d", g.O[0].F[2].S, e)
	}
}

// R5: what is answered does not hang on what was asked before.
func TestAskedAgain(t *testing.T) {
	list := someGraphs()
	for i, g := range list {
		want := answers(g)
		answers(list[len(list)-1-i])
		Reach(list[len(list)-1-i])
		for range 2 {
			for k, x := range answers(g) {
				if plain(x) != plain(want[k]) {
					t.Fatalf("answer %d of %v is another one, asked again", k, g)
				}
			}
			wantAsSaid(t, g)
		}
	}
}

func FuzzGraphs(f *testing.F) {
	for seed := range uint64(20) {
		f.Add(seed, 0, 0, 0, "a", 0)
	}
	f.Add(uint64(7), top, -1, 1, "", -1)
	f.Fuzz(func(t *testing.T, seed uint64, id, at, n int, s string, r int) {
		next := chance(seed)
		g := byChance(next)
		if next(2) == 0 && len(g.O) > 0 {
			g.O[len(g.O)-1].Id = id
		}
		wantAsSaid(t, g)
		x, made, e := newOf(g, at)
		wantNew(t, g, at, x, made, e)
		for _, v := range []api.Val{num(n), text(s), lead(r), {N: n, S: s, R: r}} {
			for _, k := range []int{at, at & 7} {
				y, e := setOf(g, id, k, v)
				wantSet(t, g, id, k, v, y, e)
			}
		}
		for _, i := range []int{at, at & 3} {
			y, e := rootOf(g, i, id)
			wantRoot(t, g, i, id, y, e)
		}
	})
}
