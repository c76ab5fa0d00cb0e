package schema

import (
	"fmt"
	"math"
	"regexp"
	"slices"
	"strings"
	"testing"
	"unsafe"

	"foliate/api"
)

func of(list ...api.Type) api.Schema              { return api.Schema{T: list} }
func typ(name string, list ...api.Field) api.Type { return api.Type{Name: name, F: list} }
func fld(name string, kind int) api.Field         { return api.Field{Name: name, Kind: kind} }
func ref(name, to string) api.Field               { return api.Field{Name: name, Kind: 5, To: to} }
func odd(name string, kind int, to string) api.Field {
	return api.Field{Name: name, Kind: kind, To: to}
}

// one is a schema of one type, a, of such fields.
func one(list ...api.Field) api.Schema { return of(typ("a", list...)) }

// types are such, without fields.
func types(names ...string) api.Schema {
	var s api.Schema
	for _, n := range names {
		s.T = append(s.T, typ(n))
	}
	return s
}

// texts are fields by such names, each a Text.
func texts(names ...string) []api.Field {
	var list []api.Field
	for _, n := range names {
		list = append(list, fld(n, 4))
	}
	return list
}

// wide are eight signs of two bytes, the last one of which may be told.
func wide(last string) string { return strings.Repeat("\u00e4", 7) + last }

// full is a schema of as many types, fields and signs as may be.
func full() api.Schema {
	var s api.Schema
	for i := range 4 {
		t := typ(wide(string(rune('\u00e4' + i))))
		for j := range 5 {
			t.F = append(t.F, ref(wide(string(rune('\u00f8'+j))), wide(string(rune('\u00e4'+(i+j)%4)))))
		}
		s.T = append(s.T, t)
	}
	return s
}

// nameForm is P5.1, as the chapter of names says it.
const nameForm = `[a-z\x{df}-\x{f6}\x{f8}-\x{ff}][0-9a-z\x{df}-\x{f6}\x{f8}-\x{ff}]{0,7}`

var (
	wholeName = regexp.MustCompile(`^` + nameForm + `$`)
	fieldForm = nameForm + `:(?:i8|i16|i32|i64|t|\*` + nameForm + `)`
	typeForm  = nameForm + `\{(?:` + fieldForm + `(?:,` + fieldForm + `){0,4})?\}`
	wholeText = regexp.MustCompile(`^(?:` + typeForm + `){1,4}$`)
	eachType  = regexp.MustCompile(`([^{}]*)\{([^{}]*)\}`)
)

func fieldNames(t api.Type) []string {
	var list []string
	for _, f := range t.F {
		list = append(list, f.Name)
	}
	return list
}

func typeNames(s api.Schema) []string {
	var list []string
	for _, t := range s.T {
		list = append(list, t.Name)
	}
	return list
}

// allOther tells whether all are names, and no two the same.
func allOther(names []string) bool {
	for i, n := range names {
		if !wholeName.MatchString(n) || slices.Contains(names[i+1:], n) {
			return false
		}
	}
	return true
}

// mayOf is P6.1's May, word by word.
func mayOf(s api.Schema) bool {
	if len(s.T) < 1 || len(s.T) > 4 || !allOther(typeNames(s)) {
		return false
	}
	for _, t := range s.T {
		if len(t.F) > 5 || !allOther(fieldNames(t)) {
			return false
		}
		for _, f := range t.F {
			switch f.Kind {
			case 0, 1, 2, 3, 4:
				if f.To != "" {
					return false
				}
			case 5:
				if !slices.Contains(typeNames(s), f.To) {
					return false
				}
			default:
				return false
			}
		}
	}
	return true
}

// sameOf is P6.1's Same: all parts as one text, with quotes, so that it is another one as soon as a part is.
func sameOf(a, b api.Schema) bool { return plain(a) == plain(b) }

func plain(s api.Schema) string {
	var b strings.Builder
	for _, t := range s.T {
		fmt.Fprintf(&b, "type %q ", t.Name)
		for _, f := range t.F {
			fmt.Fprintf(&b, "field %q %d %q ", f.Name, f.Kind, f.To)
		}
	}
	return b.String()
}

// textOf is P6.3's Text, word by word.
func textOf(s api.Schema) string {
	if !mayOf(s) {
		return ""
	}
	var all []string
	for _, t := range s.T {
		var list []string
		for _, f := range t.F {
			list = append(list, f.Name+":"+[]string{"i8", "i16", "i32", "i64", "t", "*" + f.To}[f.Kind])
		}
		all = append(all, t.Name+"{"+strings.Join(list, ",")+"}")
	}
	return strings.Join(all, "")
}

// readOf is P6.3's Read: a form tells which texts have that of a schema's, and the words which of these schemas may be.
func readOf(s string) (api.Schema, bool) {
	if !wholeText.MatchString(s) {
		return api.Schema{}, false
	}
	var x api.Schema
	for _, part := range eachType.FindAllStringSubmatch(s, -1) {
		t := typ(part[1])
		for f := range strings.SplitSeq(part[2], ",") {
			if f != "" {
				t.F = append(t.F, fieldOf(f))
			}
		}
		x.T = append(x.T, t)
	}
	if !mayOf(x) {
		return api.Schema{}, false
	}
	return x, true
}

func fieldOf(s string) api.Field {
	name, what, _ := strings.Cut(s, ":")
	if to, is := strings.CutPrefix(what, "*"); is {
		return ref(name, to)
	}
	return fld(name, map[string]int{"i8": 0, "i16": 1, "i32": 2, "i64": 3, "t": 4}[what])
}

// clone shares nothing with a schema but its names.
func clone(s api.Schema) api.Schema {
	x := api.Schema{T: slices.Clone(s.T)}
	for i := range x.T {
		x.T[i].F = slices.Clone(x.T[i].F)
	}
	return x
}

// chance hands on numbers that look like chance, the same ones each time.
func chance(seed uint64) func(below int) int {
	return func(below int) int {
		seed = seed*6364136223846793005 + 1442695040888963407
		return int(seed >> 33 % uint64(below))
	}
}

// told are schemas that may be, with their texts.
func told() []struct {
	s    api.Schema
	text string
} {
	return []struct {
		s    api.Schema
		text string
	}{
		{one(fld("n", 2), ref("o", "a")), "a{n:i32,o:*a}"}, // the chapter's example
		{one(), "a{}"},
		{one(fld("n", 0)), "a{n:i8}"},
		{one(fld("n", 1)), "a{n:i16}"},
		{one(fld("n", 2)), "a{n:i32}"},
		{one(fld("n", 3)), "a{n:i64}"},
		{one(fld("n", 4)), "a{n:t}"},
		{one(ref("n", "a")), "a{n:*a}"},
		{one(fld("a", 0)), "a{a:i8}"}, // a field by its type's name
		{one(fld("a", 0), fld("b", 1), fld("c", 2), fld("d", 3), fld("e", 4)), "a{a:i8,b:i16,c:i32,d:i64,e:t}"},
		{one(fld("e", 4), fld("d", 3), fld("c", 2), fld("b", 1), ref("a", "a")), "a{e:t,d:i64,c:i32,b:i16,a:*a}"},
		{types("b", "a"), "b{}a{}"},
		{types("a", "b", "c"), "a{}b{}c{}"},
		{types("d", "c", "b", "a"), "d{}c{}b{}a{}"},
		{of(typ("a", ref("o", "b")), typ("b")), "a{o:*b}b{}"}, // to a later one
		{of(typ("a"), typ("b", ref("o", "a"))), "a{}b{o:*a}"}, // to an earlier one
		{of(typ("a", ref("x", "b"), ref("y", "b")), typ("b", ref("x", "a"), ref("y", "b"))), "a{x:*b,y:*b}b{x:*a,y:*b}"}, // fields of one name in two types
		{of(typ("i8", fld("i16", 2)), typ("t", fld("t", 4), ref("i8", "i8"))), "i8{i16:i32}t{t:t,i8:*i8}"},               // names like kinds
		{of(typ("\u00e4", fld("\u00f6", 4), ref("\u00df", "\u00ff")), typ("\u00ff")), "\u00e4{\u00f6:t,\u00df:*\u00ff}\u00ff{}"},
		{of(typ("abcdefgh", fld("a1234567", 0), ref("zzzzzzzz", "abcdefgh"))), "abcdefgh{a1234567:i8,zzzzzzzz:*abcdefgh}"},
		{of(typ(wide("\u00e4"), ref(wide("1"), wide("\u00e4")))), wide("\u00e4") + "{" + wide("1") + ":*" + wide("\u00e4") + "}"},
		{of(typ("a", fld("b", 0)), typ("ab", fld("b", 0)), typ("abc", ref("b", "ab"))), "a{b:i8}ab{b:i8}abc{b:*ab}"}, // one name begins another one
	}
}

// good are schemas that may be.
func good() []api.Schema {
	list := []api.Schema{full(), of(typ("a", texts("a", "b", "c", "d", "e")...), typ("b", texts("a", "b", "c", "d", "e")...), typ("c"), typ("d", texts("e", "d", "c", "b", "a")...))}
	for _, x := range told() {
		list = append(list, x.s)
	}
	return list
}

// noNames are texts that are no names: empty, too long, of other signs, and of bytes that are no sign's.
func noNames() []string {
	return []string{
		"", "1", "1a", "A", "aB", " ", "a ", " a", "a.b", ".", "_", "a\n", "\x00", "a\x00",
		"{", "}", ":", ",", "*", "a{", "a}", "a:", "a,", "a*", "*a", "a{}", "n:t", "n:t,m",
		"abcdefghi", "a12345678", wide("\u00e4a"), wide("\u00e4") + "\u00e4", strings.Repeat("a", 1000),
		"\u00de", "\u00f7", "\u0100", "a\u0100", "\u03b1", "\ufffd", "a\u0661",
		"\xff", "a\xff", "\xc3", "\xa4", "\xc3a", "abcdefg\xc3", "\xc1\xa1",
	}
}

// bad are schemas that may not be.
func bad() []api.Schema {
	list := []api.Schema{
		{},
		{T: []api.Type{}},
		types("a", "b", "c", "d", "e"),
		types("a", "a"), types("a", "b", "a"), types("b", "a", "a"), types("a", "b", "c", "a"), types("a", "b", "c", "c"),
		of(typ("a", fld("n", 0)), typ("a", fld("m", 0))),
		one(texts("a", "b", "c", "d", "e", "f")...),
		of(typ("a"), typ("b", texts("a", "b", "c", "d", "e", "f")...)),
		one(texts("n", "n")...), one(texts("n", "m", "n")...), one(texts("a", "b", "c", "d", "d")...), one(texts("a", "b", "c", "d", "a")...),
		one(fld("n", 0), fld("n", 1)), one(ref("n", "a"), fld("n", 4)),
		of(typ("b", texts("n")...), typ("a", texts("m", "n", "n")...)),
		one(fld("n", -1)), one(fld("n", 6)), one(fld("n", 7)), one(fld("n", math.MinInt)), one(fld("n", math.MaxInt)), one(fld("n", 256)),
		one(odd("n", -1, "a")), one(odd("n", 6, "a")),
		one(ref("n", "")), one(ref("n", "b")), one(ref("n", "n")), one(ref("n", "aa")), one(ref("n", "A")), one(ref("n", "*a")), one(ref("n", "a\xff")),
		of(typ("b"), typ("a", fld("n", 0), ref("o", ""))),
		of(typ("b"), typ("ab", ref("n", "a"))), of(typ("b"), typ("a", ref("n", "ab"))),
		of(typ("b"), typ("a", fld("n", 0), odd("m", 3, "b"))),
		of(typ(""), typ("a", ref("n", ""))), // there is a type by that name, but it may not be
		of(typ("a", fld("n", 0)), typ("b", fld("m", 6))),
	}
	for k := range 5 {
		list = append(list, one(odd("n", k, "a")), one(odd("n", k, "b")), one(odd("n", k, "n")))
	}
	for _, n := range noNames() {
		list = append(list, types(n), types("a", n), types(n, "a"), types("a", "b", "c", n))
		list = append(list, one(fld(n, 0)), one(ref(n, "a")), one(fld("n", 0), fld(n, 4)), of(typ("b"), typ("a", fld(n, 1), fld("m", 1))))
		list = append(list, one(ref("n", n)), one(odd("n", 4, n+"a")), of(typ(n, ref("n", n))))
	}
	return list
}

// small are schemas of at most two types, of at most two fields, in all ways that some names, kinds and Tos can be put together.
func small() []api.Schema {
	var fields []api.Field
	for _, n := range []string{"a", "b", "1"} {
		for k := -1; k <= 6; k++ {
			for _, to := range []string{"", "a", "b"} {
				fields = append(fields, odd(n, k, to))
			}
		}
	}
	lists := [][]api.Field{nil}
	for _, f := range fields {
		lists = append(lists, []api.Field{f})
		for _, g := range fields {
			lists = append(lists, []api.Field{f, g})
		}
	}
	var all []api.Schema
	for _, l := range lists {
		all = append(all, one(l...), of(typ("a", l...), typ("b")), of(typ("b"), typ("a", l...)))
	}
	few := []api.Field{fld("a", 0), fld("a", 4), fld("b", 0), ref("a", "a"), ref("a", "b"), ref("b", "b"), odd("b", 4, "a"), fld("a", 6), fld("1", 0)}
	lists = [][]api.Field{nil}
	for _, f := range few {
		lists = append(lists, []api.Field{f})
		for _, g := range few {
			lists = append(lists, []api.Field{f, g})
		}
	}
	for _, l := range lists {
		for _, m := range lists {
			all = append(all, of(typ("a", l...), typ("b", m...)), of(typ("a", l...), typ("a", m...)))
		}
	}
	return all
}

// byChance is a schema of about as many types and fields as may be; most may be, some not.
func byChance(next func(int) int) api.Schema {
	names := []string{"a", "b", "c", "d", "e", "f", "\u00e4", "t", "i8", "abcdefgh"}
	some := func(most int) []string {
		from := next(len(names))
		list := slices.Concat(names[from:], names[:from])[:most]
		if next(20) == 0 {
			list = append(list, "a")
		}
		return list
	}
	titles := some(next(5))
	var s api.Schema
	for _, n := range titles {
		t := typ(n)
		for _, f := range some(next(6)) {
			k := next(6)
			x := fld(f, k)
			if k == 5 {
				x.To = titles[next(len(titles))]
			}
			if next(60) == 0 {
				x.Kind = next(8) - 1
			}
			t.F = append(t.F, x)
		}
		s.T = append(s.T, t)
	}
	return s
}

func wantMay(t testing.TB, s api.Schema, want bool) {
	t.Helper()
	if got := May(s); got != want {
		t.Errorf("May(%v) = %v", s, got)
	}
}

func wantRead(t testing.TB, s string, want api.Schema) {
	t.Helper()
	if x, ok := Read(s); !ok || !sameOf(x, want) {
		t.Errorf("Read(%q) = %v, %v, not %v, true", s, x, ok, want)
	}
}

func wantNone(t testing.TB, s string) {
	t.Helper()
	if x, ok := Read(s); ok || len(x.T) != 0 {
		t.Errorf("Read(%q) = %v, %v, not nothing and false", s, x, ok)
	}
}

// wantAsSaid holds Read against the words, and tells whether there is a schema.
func wantAsSaid(t testing.TB, s string) bool {
	t.Helper()
	want, ok := readOf(s)
	if ok {
		wantRead(t, s, want)
		return true
	}
	wantNone(t, s)
	return false
}

// P6.1, by hand.
func TestMay(t *testing.T) {
	for _, s := range good() {
		wantMay(t, s, true)
	}
	for _, s := range bad() {
		wantMay(t, s, false)
	}
}

// P6.1: how many types and fields there may be.
func TestMayByHowMany(t *testing.T) {
	names := []string{"a", "b", "c", "d", "e", "f", "g", "h"}
	for i := range 8 {
		wantMay(t, types(names[:i]...), i >= 1 && i <= 4)
		wantMay(t, one(texts(names[:i]...)...), i <= 5)
		wantMay(t, of(typ("b"), typ("a", texts(names[:i]...)...)), i <= 5)
	}
}

// P6.1: kinds and Tos.
func TestMayByKinds(t *testing.T) {
	for k := -300; k <= 300; k++ {
		wantMay(t, one(fld("n", k)), k >= 0 && k <= 4)
		wantMay(t, one(odd("n", k, "a")), k == 5)
		wantMay(t, one(odd("n", k, "b")), false)
	}
}

// P6.1: names, as a type's and as a field's, up to eight signs, however many bytes they are.
func TestMayByNames(t *testing.T) {
	for _, n := range []string{"a", "z", "a1", "abcdefgh", "a1234567", "\u00df", "\u00e4", "\u00f6", "\u00f8", "\u00ff", wide("a"), wide("9"), wide("\u00ff")} {
		wantMay(t, types(n), true)
		wantMay(t, types("b", n), true)
		wantMay(t, one(fld(n, 0)), true)
		wantMay(t, of(typ(n, ref(n, n))), true)
		wantMay(t, one(ref("o", n)), n == "a")
		wantMay(t, types(n+"abcdefgh"), false)
		wantMay(t, one(fld(n+"abcdefgh", 0)), false)
	}
	for sign := rune(0); sign < 0x300; sign++ {
		s := string(sign)
		wantMay(t, types(s), wholeName.MatchString(s))
		wantMay(t, one(fld("a"+s, 0)), wholeName.MatchString("a"+s))
	}
}

// P6.1, over many schemas.
func TestMayAgainstTheWords(t *testing.T) {
	mays := 0
	try := func(s api.Schema) {
		want := mayOf(s)
		if want {
			mays++
		}
		wantMay(t, s, want)
	}
	for _, s := range small() {
		try(s)
	}
	next := chance(61)
	for range 20000 {
		try(byChance(next))
	}
	if mays < 5000 {
		t.Errorf("only %d schemas that may be were tried", mays)
	}
}

// base has two of each part, for what differs in one part alone.
func base() api.Schema {
	return of(typ("a", fld("n", 0), ref("o", "b")), typ("b", ref("p", "a"), fld("q", 4)))
}

// near are schemas that differ from base in one part alone, in order, or in how many there are; all are others than each other.
func near() []api.Schema {
	var list []api.Schema
	edit := func(do func(s *api.Schema)) {
		s := clone(base())
		do(&s)
		list = append(list, s)
	}
	for i := range 2 {
		edit(func(s *api.Schema) { s.T[i].Name = "c" })
		edit(func(s *api.Schema) { s.T[i].Name = "" })
		edit(func(s *api.Schema) { s.T[i].Name += "\xff" })
		edit(func(s *api.Schema) { s.T[i].F = nil })
		edit(func(s *api.Schema) { s.T[i].F = s.T[i].F[:1] })
		edit(func(s *api.Schema) { s.T[i].F = s.T[i].F[1:] })
		edit(func(s *api.Schema) { slices.Reverse(s.T[i].F) })
		edit(func(s *api.Schema) { s.T[i].F = append(s.T[i].F, fld("r", 0)) })
		edit(func(s *api.Schema) { s.T[i].F = append(s.T[i].F, api.Field{}) })
		edit(func(s *api.Schema) { s.T = slices.Delete(s.T, i, i+1) })
		for j := range 2 {
			edit(func(s *api.Schema) { s.T[i].F[j].Name = "c" })
			edit(func(s *api.Schema) { s.T[i].F[j].Name = "" })
			edit(func(s *api.Schema) { s.T[i].F[j].Kind = 3 })
			edit(func(s *api.Schema) { s.T[i].F[j].Kind += 256 })
			edit(func(s *api.Schema) { s.T[i].F[j].Kind = -1 })
			edit(func(s *api.Schema) { s.T[i].F[j].To = "c" })
			edit(func(s *api.Schema) { s.T[i].F[j].To += "\xff" })
		}
	}
	edit(func(s *api.Schema) { s.T[0].F[1].To = "a" })
	edit(func(s *api.Schema) { slices.Reverse(s.T) })
	edit(func(s *api.Schema) { s.T[0].F, s.T[1].F = s.T[1].F, s.T[0].F })
	edit(func(s *api.Schema) { s.T[0].Name, s.T[1].Name = s.T[1].Name, s.T[0].Name })
	edit(func(s *api.Schema) { s.T = append(s.T, typ("c")) })
	edit(func(s *api.Schema) { s.T = append(s.T, api.Type{}) })
	edit(func(s *api.Schema) { s.T[1].F, s.T[0].F = slices.Concat(s.T[0].F, s.T[1].F), nil })
	edit(func(s *api.Schema) { s.T = append(s.T, s.T...) })
	edit(func(s *api.Schema) { s.T = nil })
	return list
}

// P6.1: two schemas that differ are not the same, whichever is which.
func TestSameOfOthers(t *testing.T) {
	list := append(near(), base())
	for i, a := range list {
		for j, b := range list {
			if got := Same(a, b); got != (i == j) {
				t.Errorf("Same(%v, %v) = %v", a, b, got)
			}
		}
	}
}

// P6.1 and R6: what has the same parts is the same, also if it may not be, and be a list nil or empty.
func TestSameOfTheSame(t *testing.T) {
	for _, s := range slices.Concat(good(), bad(), near()) {
		x := clone(s)
		if !Same(s, x) || !Same(x, s) || !Same(s, s) {
			t.Errorf("%v is not the same as its copy", s)
		}
	}
	for _, x := range [][2]api.Schema{
		{{}, {T: []api.Type{}}},
		{of(typ("a")), of(api.Type{Name: "a", F: []api.Field{}})},
		{{T: make([]api.Type, 1, 9)}, {T: make([]api.Type, 1)}},
	} {
		if !Same(x[0], x[1]) || !Same(x[1], x[0]) {
			t.Errorf("%v and %v are not the same", x[0], x[1])
		}
	}
}

func TestSameAgainstTheWords(t *testing.T) {
	list := slices.Concat(good(), bad(), near())
	for _, a := range list {
		for _, b := range list {
			if got := Same(a, b); got != sameOf(a, b) {
				t.Errorf("Same(%v, %v) = %v", a, b, got)
			}
		}
	}
}

// P6.2: of any schema, also one that may not be; the same places for types and for fields.
func TestFindAndField(t *testing.T) {
	many := strings.Split("a b c a b d e f g h", " ")
	for _, x := range []struct {
		names []string
		name  string
		want  int
	}{
		{nil, "a", -1}, {nil, "", -1},
		{[]string{"a"}, "a", 0}, {[]string{"a"}, "b", -1}, {[]string{"a"}, "", -1}, {[]string{"a"}, "A", -1}, {[]string{"a"}, "aa", -1}, {[]string{"aa"}, "a", -1},
		{[]string{"a", "b", "c", "d"}, "a", 0}, {[]string{"a", "b", "c", "d"}, "b", 1}, {[]string{"a", "b", "c", "d"}, "d", 3}, {[]string{"a", "b", "c", "d"}, "e", -1},
		{[]string{"a", "a"}, "a", 0}, {[]string{"b", "a", "a"}, "a", 1}, {[]string{"b", "a", "b", "a"}, "a", 1}, // there more than once
		{many, "b", 1}, {many, "d", 5}, {many, "h", 9}, {many, "i", -1},
		{[]string{"", "a", ""}, "", 0}, {[]string{"a", ""}, "", 1}, {[]string{"1", "\xff", "\xfe"}, "\xfe", 2}, {[]string{"\xff"}, "\ufffd", -1},
		{[]string{"\u00e4", "\u00f6"}, "\u00f6", 1}, {[]string{"\u00e4"}, "\xc3", -1}, {[]string{"a\x00"}, "a", -1},
		{[]string{strings.Repeat("a", 1000)}, strings.Repeat("a", 1000), 0}, {[]string{strings.Repeat("a", 1000)}, strings.Repeat("a", 999), -1},
	} {
		if got := Find(types(x.names...), x.name); got != x.want {
			t.Errorf("Find of %q in %q = %d, not %d", x.name, x.names, got, x.want)
		}
		if got := Field(typ("a", texts(x.names...)...), x.name); got != x.want {
			t.Errorf("Field of %q in %q = %d, not %d", x.name, x.names, got, x.want)
		}
	}
}

// P6.2: other parts have no say.
func TestFindByNamesAlone(t *testing.T) {
	s := of(typ("a", fld("b", 0), ref("n", "c")), typ("b", fld("c", 77), odd("a", -1, "x")))
	if Find(s, "c") != -1 || Find(s, "n") != -1 || Find(s, "b") != 1 {
		t.Error("a type is found by a field's name")
	}
	if Field(s.T[0], "c") != -1 || Field(s.T[0], "a") != -1 || Field(s.T[0], "n") != 1 || Field(s.T[1], "x") != -1 || Field(s.T[1], "a") != 1 {
		t.Error("a field is found by another name than its own")
	}
}

func TestFindAgainstTheWords(t *testing.T) {
	for _, s := range slices.Concat(good(), bad(), near()) {
		for _, n := range []string{"", "a", "b", "c", "d", "n", "o", "abcdefgh", wide("\u00e4"), "\xff"} {
			if got := Find(s, n); got != slices.Index(typeNames(s), n) {
				t.Errorf("Find(%v, %q) = %d", s, n, got)
			}
			for _, x := range s.T {
				if got := Field(x, n); got != slices.Index(fieldNames(x), n) {
					t.Errorf("Field(%v, %q) = %d", x, n, got)
				}
			}
		}
	}
}

// P6.3, by hand: each kind, and both ways.
func TestTextAndRead(t *testing.T) {
	for _, x := range told() {
		if got := Text(x.s); got != x.text {
			t.Errorf("Text(%v) = %q, not %q", x.s, got, x.text)
		}
		wantRead(t, x.text, x.s)
	}
}

// P6.3: a schema that may not be has an empty text, and that is none's.
func TestTextOfWhatMayNotBe(t *testing.T) {
	for _, s := range bad() {
		if got := Text(s); got != "" {
			t.Errorf("Text(%v) = %q", s, got)
		}
	}
	wantNone(t, "")
}

// P6.3, over many schemas: their texts, and these read back.
func TestTextAgainstTheWords(t *testing.T) {
	try := func(s api.Schema) {
		want := textOf(s)
		if got := Text(s); got != want {
			t.Errorf("Text(%v) = %q, not %q", s, got, want)
		}
		if want != "" {
			wantRead(t, want, s)
		}
	}
	for _, s := range slices.Concat(good(), bad(), near(), small()) {
		try(s)
	}
	next := chance(63)
	for range 20000 {
		try(byChance(next))
	}
}

// P6.3: texts that are no schema's.
func TestReadNone(t *testing.T) {
	for _, s := range []string{
		"", " ", "a", "{", "}", "{}", "a{", "a}", "a{}b", "a{}{}", "a{}}", "a{{}", "a{{}}", "{a}", "a{}b{", "a{}b}",
		"a{} ", " a{}", "a {}", "a{ }", "a{}\n", "\na{}", "a{}\x00", "a{},b{}", "a{}.b{}", "a,b{}", "a:t{}", "a*{}", "*a{}",
		"a{,}", "a{n}", "a{n:}", "a{:}", "a{:t}", "a{n:t,}", "a{,n:t}", "a{n:t,,m:t}", "a{n:t,m}", "a{n:t;m:t}", "a{n:t m:t}",
		"a{n:i}", "a{n:i7}", "a{n:i9}", "a{n:i08}", "a{n:i 8}", "a{n:i88}", "a{n:i1}", "a{n:i160}", "a{n:i24}", "a{n:i3}", "a{n:i6}", "a{n:i128}", "a{n:8}", "a{n:I8}",
		"a{n:T}", "a{n:tt}", "a{n:text}", "a{n:ta}", "a{n:t:t}", "a{n::t}", "a{n:t*a}", "a{n:t,n}", "a{n:int}",
		"a{n:i8a}", "a{n:i16a}", "a{n:i32a}", "a{n:i64a}", "a{n:i8*a}", "a{n:ai8}", "a{n:at}",
		"a{n:*}", "a{n:*b}", "a{n:**a}", "a{n:* a}", "a{n:*a*}", "a{n:*a*a}", "a{n:*a:a}", "a{n:*aa}", "a{n:*n}", "a{n:a}", "a{n:&a}", "a{n:*A}", "a{n:*}{}",
		"a{n:t}}", "a{n:t}{", "a{n:t} ", "a{n:t", "a{n:", "a{n", "a{n:t}b{n:t", "a{b{}}", "a{n:b{}}", "a{n:t{}}",
		"a{}a{}", "a{}b{}a{}", "a{n:t}a{m:t}", "a{n:t,n:t}", "a{n:t,n:i8}", "a{n:t,m:t,n:t}", "a{n:*a,n:t}", // there twice
		"a{}b{}c{}d{}e{}", "a{a:t,b:t,c:t,d:t,e:t,f:t}", "a{}b{a:t,b:t,c:t,d:t,e:t,f:t}", // too many
		"1{}", "A{}", "abcdefghi{}", wide("\u00e4a") + "{}", "\u00f7{}", "\u0100{}", "\ufffd{}",
		"a{1:t}", "a{N:t}", "a{abcdefghi:t}", "a{" + wide("\u00e4a") + ":t}", "a{\u00f7:t}", "a{n.m:t}",
		"\xff{}", "a\xff{}", "a{\xff}", "a{}\xff", "\xffa{}", "a{n\xff:t}", "a{n:\xff}", "a{n:t\xff}", "a{n:*a\xff}", "a{n:*\xff}", "a{n:t,\xff}",
		"\xc3{}", "\xc3", "\xc3{\xa4}", "\xa4{}", "a{\xc3:t}", "a{n:t}\xc3", "a\xc1\xbb}", "a\xe0\x81\xbb}", "a{n\xc0\xbat}", // signs cut in two, and in more bytes than need be
		"a\u017b\u017d", "a\uff5b\uff5d", "a\u027b}", "a{n\u013at}", "a{n:t\u012cm:t}", "a{n:\u012aa}", // other signs, whose last bits are those that are asked for
		"a[]", "a()", "a{n=t}", "a{n\uff1at}", "a\ufeff{}", "\ufeffa{}",
	} {
		wantNone(t, s)
	}
}

// pieces are signs that texts have, signs near them, and bytes that are no sign's.
func pieces() []string {
	return []string{
		"a", "b", "n", "t", "i", "z", "0", "1", "6", "8", "{", "}", ":", ",", "*", ";", "|", " ", "A", ".", "\x00", "\n",
		"\u00e4", "\u00ff", "\u00f7", "\u0100", "\u017b", "\ufffd", "\U0001f600", "\xff", "\xc3", "\xa4",
	}
}

// signsOf are a text's signs, each as a text.
func signsOf(s string) []string {
	var list []string
	for _, sign := range s {
		list = append(list, string(sign))
	}
	return list
}

// changed are texts that differ a little from one: cut, with a sign more or less, or another one, or two swapped.
func changed(s string) []string {
	var list []string
	for i := range len(s) {
		list = append(list, s[:i], s[i:], s[:i]+s[i+1:])
	}
	signs := signsOf(s)
	for i := range len(signs) + 1 {
		ahead, behind := strings.Join(signs[:i], ""), strings.Join(signs[i:], "")
		for _, p := range pieces() {
			list = append(list, ahead+p+behind)
			if i < len(signs) {
				list = append(list, ahead+p+strings.Join(signs[i+1:], ""))
			}
		}
	}
	reach := len(signs)
	if reach > 60 {
		reach = 3
	}
	for i := range signs {
		for j := i + 1; j < len(signs) && j <= i+reach; j++ {
			swapped := slices.Clone(signs)
			swapped[i], swapped[j] = swapped[j], swapped[i]
			list = append(list, strings.Join(swapped, ""))
		}
	}
	return list
}

// P6.3: what differs a little from a text is none's, or another schema's.
func TestReadOfChangedTexts(t *testing.T) {
	for _, s := range append(good(), base()) {
		text := textOf(s)
		refused := 0
		for _, x := range changed(text) {
			if !wantAsSaid(t, x) {
				refused++
			}
			if got, ok := Read(x); ok && x != text && sameOf(got, s) {
				t.Errorf("%q is read as %q is", x, text)
			}
		}
		if refused < 3*len(text) {
			t.Errorf("only %d changes of %q are refused", refused, text)
		}
	}
}

// P6.3: a text, or a part of it, that is there twice.
func TestReadTwice(t *testing.T) {
	for _, s := range good() {
		text := textOf(s)
		wantNone(t, text+text)
		wantNone(t, text+typeText(s.T[0]))
		wantNone(t, typeText(s.T[len(s.T)-1])+text)
		for i := range s.T {
			for j := range s.T[i].F {
				x := clone(s)
				x.T[i].F = append(x.T[i].F, x.T[i].F[j])
				parts := make([]string, len(x.T))
				for k := range x.T {
					parts[k] = typeText(x.T[k])
				}
				wantNone(t, strings.Join(parts, ""))
			}
		}
	}
}

// P6.3: names that may not be, wherever one stands.
func TestReadOfNamesThatMayNotBe(t *testing.T) {
	for _, n := range noNames() {
		for _, s := range []string{n + "{}", "b{}" + n + "{}", n + "{n:t}", "a{" + n + ":t}", "a{n:t," + n + ":i8}", n + "{n:*" + n + "}", "a{" + n + ":*a}", "a{n:*" + n + "}"} {
			wantAsSaid(t, s)
			// One that holds other signs of a text may make another one of it.
			if !strings.ContainsAny(n, "{}:,*") {
				wantNone(t, s)
			}
		}
	}
}

// P6.3, over all short texts of some signs.
func TestReadAgainstTheWords(t *testing.T) {
	list := []string{""}
	read := 0
	for range 7 {
		var longer []string
		for _, s := range list {
			for _, p := range []string{"a", "b", "{", "}", ":", ",", "*", "t"} {
				longer = append(longer, s+p)
			}
		}
		for _, s := range longer {
			if wantAsSaid(t, s) {
				read++
			}
		}
		list = longer
	}
	if read < 400 {
		t.Errorf("only %d texts are some schema's", read)
	}
}

// P6.4: texts of two schemas are the same just if these are.
func TestTextsOfTwo(t *testing.T) {
	list := good()
	for _, s := range append(near(), base()) {
		if mayOf(s) {
			list = append(list, s)
		}
	}
	next := chance(64)
	for len(list) < 600 {
		if s := byChance(next); mayOf(s) {
			list = append(list, s, clone(s))
		}
	}
	var told, parts []string
	for _, s := range list {
		told, parts = append(told, Text(s)), append(parts, plain(s))
	}
	for i, a := range list {
		for j, b := range list {
			if same := Same(a, b); same != (told[i] == told[j]) || same != (parts[i] == parts[j]) {
				t.Fatalf("%v and %v: %v, but their texts are %q and %q", a, b, same, told[i], told[j])
			}
		}
	}
}

// P6.4, over all small schemas that may be: each text is one schema's alone.
func TestTextsOfAllSmall(t *testing.T) {
	whose := map[string]string{}
	for _, s := range small() {
		if !mayOf(s) {
			continue
		}
		text := Text(s)
		if other, had := whose[text]; had && other != plain(s) {
			t.Fatalf("%q is the text of %s and of %s", text, other, plain(s))
		}
		whose[text] = plain(s)
	}
	if len(whose) < 800 {
		t.Errorf("only %d texts", len(whose))
	}
}

// R3: what is handed in stays as it was, also behind the lists' ends.
func TestHandedInStays(t *testing.T) {
	for _, s := range slices.Concat(good(), bad(), near()) {
		roomy := roomyCopy(s)
		before := plain(of(roomy.T[:cap(roomy.T)]...))
		May(roomy)
		Same(roomy, s)
		Same(s, roomy)
		Text(roomy)
		Find(roomy, "a")
		for _, x := range roomy.T {
			Field(x, "n")
		}
		if plain(of(roomy.T[:cap(roomy.T)]...)) != before || !sameOf(roomy, s) {
			t.Errorf("%v was changed", s)
		}
		for _, x := range roomy.T {
			if spare := x.F[:cap(x.F)][len(x.F)]; spare.Name != "spare" {
				t.Errorf("what stands behind the fields of %v was changed", s)
			}
		}
	}
}

// roomyCopy has something stand behind each list's end.
func roomyCopy(s api.Schema) api.Schema {
	x := clone(s)
	for i := range x.T {
		list := append(x.T[i].F, fld("spare", 9))
		x.T[i].F = list[: len(list)-1 : len(list)]
	}
	list := append(x.T, typ("spare"))
	x.T = list[: len(list)-1 : len(list)]
	return x
}

// R3: an answer is the caller's own, and so is each list of it.
func TestAnswersAreOnesOwn(t *testing.T) {
	for _, s := range good() {
		text := textOf(s)
		x, _ := Read(text)
		spoil(x)
		wantRead(t, text, s)
		y, _ := Read(text)
		for i := range y.T {
			list := y.T[i].F
			spoil(of(api.Type{F: list[:cap(list)]}))
			for j := range y.T {
				if j > i && !sameType(y.T[j], s.T[j]) {
					t.Errorf("%q: lists %d and %d share memory", text, i, j)
				}
			}
		}
	}
}

func spoil(s api.Schema) {
	for i := range s.T {
		for j := range s.T[i].F {
			s.T[i].F[j] = odd("spoilt", 99, "spoilt")
		}
		s.T[i].Name = "spoilt"
	}
}

// borrowed is a text whose bytes are those of the list: they change together.
func borrowed(s string) (string, []byte) {
	b := []byte(s + " ")
	return unsafe.String(&b[0], len(s)), b
}

// R3: nothing of a text that is handed in is kept, neither by Read nor by Text.
func TestTextsAreNotKept(t *testing.T) {
	for _, s := range good() {
		text := textOf(s)
		lent, raw := borrowed(text)
		x, ok := Read(lent)
		for i := range raw {
			raw[i] = '?'
		}
		if !ok || !sameOf(x, s) {
			t.Errorf("Read(%q) keeps what was handed in: %v", text, x)
		}
	}
	lent, raw := borrowed("a")
	got := Text(of(typ(lent, ref(lent, lent))))
	raw[0] = '?'
	if got != "a{a:*a}" {
		t.Errorf("Text keeps a name that was handed in: %q", got)
	}
}

// P1 and R1: the calls end soon, whatever they are given.
func TestLong(t *testing.T) {
	const count = 1 << 20
	for _, p := range []string{"a", "{", "}", ":", ",", "*", "a{}", "{}", "a{", "}a{", "a{n:t}", "n:t,", "a{n:*", "\u00e4", "\xff", "\xc3"} {
		long := strings.Repeat(p, count)
		for _, s := range []string{long, long + "{}", "a{" + long + "}", "a{n:" + long + "}", "a{n:*" + long + "}", "a{}" + long, "a{n:t," + long, "a{" + long + "n:t}", "a{" + long + ":t}"} {
			if x, ok := Read(s); ok || len(x.T) != 0 {
				t.Errorf("a text that begins by %q, with many %q, is read", s[:1], p)
			}
		}
		for _, s := range []api.Schema{types(long), one(fld(long, 0)), one(odd("n", 0, long)), one(ref("n", long)), of(typ(long, ref("n", long)))} {
			if May(s) || Text(s) != "" || !Same(s, clone(s)) {
				t.Errorf("a schema with a name of many %q may be", p)
			}
		}
	}
	many := api.Schema{T: slices.Repeat(one(texts("n")...).T, count)}
	wide := one(slices.Repeat(texts("n"), count)...)
	for _, s := range []api.Schema{many, wide} {
		if May(s) || Text(s) != "" || !Same(s, clone(s)) || Same(s, one(texts("n")...)) {
			t.Error("a schema of too many parts may be")
		}
	}
	if Find(many, "b") != -1 || Field(wide.T[0], "m") != -1 || Find(many, "a") != 0 || Field(wide.T[0], "n") != 0 {
		t.Error("places in long lists are wrong")
	}
}

// R5: what is answered does not hang on what was asked before.
func TestAskedAgain(t *testing.T) {
	list := slices.Concat(good(), bad(), good())
	for range 2 {
		for i, s := range list {
			other := list[len(list)-1-i]
			Read(textOf(other))
			Read(textOf(other) + "}")
			Text(other)
			wantMay(t, s, mayOf(s))
			if Text(s) != textOf(s) {
				t.Errorf("Text(%v) = %q", s, Text(s))
			}
			wantAsSaid(t, textOf(s))
		}
	}
}

func FuzzRead(f *testing.F) {
	for _, s := range good() {
		f.Add(textOf(s))
	}
	for _, s := range []string{"", "a{n:*b}", "a{n:t,}", "a{}\xff", "a{}a{}", "a{n:i8x}"} {
		f.Add(s)
	}
	f.Fuzz(func(t *testing.T, s string) {
		if wantAsSaid(t, s) {
			if x, _ := Read(s); !May(x) || Text(x) != s {
				t.Errorf("%q is read as %v, but told as %q", s, x, Text(x))
			}
		}
	})
}

func FuzzSchemas(f *testing.F) {
	f.Add("a", "b", "n", "o", 2, "b", 5)
	f.Add("a", "a", "n", "n", 4, "", 0)
	f.Add("\xff", "", "{", ":", -1, "c", 6)
	f.Fuzz(func(t *testing.T, a, b, n, o string, x int, to string, y int) {
		for _, s := range []api.Schema{of(typ(a, odd(n, x, to), odd(o, y, b)), typ(b)), of(typ(a, odd(n, x, "")), typ(b, odd(o, y, to)))} {
			wantMay(t, s, mayOf(s))
			if Text(s) != textOf(s) {
				t.Errorf("Text(%v) = %q", s, Text(s))
			}
			if mayOf(s) {
				wantRead(t, Text(s), s)
			}
			if Find(s, to) != slices.Index(typeNames(s), to) || Field(s.T[0], to) != slices.Index(fieldNames(s.T[0]), to) {
				t.Errorf("%q is found elsewhere in %v", to, s)
			}
		}
	})
}
