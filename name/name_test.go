package name

import (
	"slices"
	"strings"
	"testing"
	"unicode/utf8"
)

// isLetter and isDigit are the chapter's words, number by number.
func isLetter(sign rune) bool {
	return 97 <= sign && sign <= 122 || 223 <= sign && sign <= 246 || 248 <= sign && sign <= 255
}

func isDigit(sign rune) bool { return 48 <= sign && sign <= 57 }

// signsOf are a text's signs, by the library.
func signsOf(s string) []rune {
	var list []rune
	for len(s) > 0 {
		sign, size := utf8.DecodeRuneInString(s)
		list = append(list, sign)
		s = s[size:]
	}
	return list
}

// lenOf is P5.1, word by word: 0 if the text may not be.
func lenOf(s string) int {
	signs := signsOf(s)
	for i, sign := range signs {
		if !isLetter(sign) && !(i > 0 && isDigit(sign)) {
			return 0
		}
	}
	if len(signs) > 8 {
		return 0
	}
	return len(signs)
}

// lessOf is P5.2, word by word.
func lessOf(a, b string) bool {
	x, y := signsOf(a), signsOf(b)
	for i := range min(len(x), len(y)) {
		if x[i] != y[i] {
			return x[i] < y[i]
		}
	}
	return len(x) < len(y)
}

// joinOf is P5.3's Join, word by word.
func joinOf(a, b string) string {
	if lenOf(a) == 0 || lenOf(b) == 0 {
		return ""
	}
	return a + "." + b
}

// splitOf is P5.3's Split, word by word: it tries all cuts, since two texts whose Join s is stand in s with one byte between.
func splitOf(s string) (string, string, bool) {
	for at := range len(s) {
		if a, b := s[:at], s[at+1:]; joinOf(a, b) == s {
			return a, b, true
		}
	}
	return "", "", false
}

// allTexts are all texts of at most so many of the pieces.
func allTexts(most int, pieces ...string) []string {
	list := []string{""}
	from := 0
	for range most {
		to := len(list)
		for _, s := range list[from:to] {
			for _, p := range pieces {
				list = append(list, s+p)
			}
		}
		from = to
	}
	return list
}

// pieces are signs near the words' bounds, and bytes that are no sign's, some of which make one with another behind.
func pieces() []string {
	return []string{
		"a", "z", "0", "9", ".", "/", ":", "`", "{", "A", "\x00", "\u007f",
		"\u0080", "\u00de", "\u00df", "\u00e4", "\u00f6", "\u00f7", "\u00f8", "\u00ff", "\u0100",
		"\u0661", "\ufffd", "\U0001f600", "\U0010ffff",
		"\xff", "\xc3", "\xa4", "\x80",
	}
}

// texts are all short ones of the pieces, and some of about as many signs as may be.
func texts() []string {
	list := allTexts(2, pieces()...)
	for count := 6; count <= 10; count++ {
		for _, p := range pieces() {
			list = append(list, strings.Repeat(p, count), "a"+strings.Repeat(p, count-1), strings.Repeat("\u00e4", count-1)+p)
		}
	}
	return list
}

// long are texts that no call may need long for.
func long() []string {
	const count = 1 << 20
	return []string{
		strings.Repeat("a", count),
		strings.Repeat("\u00e4", count),
		strings.Repeat(".", count),
		strings.Repeat("\xff", count),
		"a." + strings.Repeat("b", count),
		strings.Repeat("a", count) + ".b",
	}
}

// names are texts that may be, of one to eight signs.
func names() []string {
	list := []string{"abcdefgh", "a0000000", "\u00e4\u00e4\u00e4\u00e4\u00e4\u00e4\u00e4\u00e4", "\u00ff9999999", "name", "name1", "nam\u00e9"}
	for _, s := range allTexts(3, "a", "b", "z", "\u00df", "\u00e4", "\u00ff", "0", "9") {
		if lenOf(s) > 0 {
			list = append(list, s)
		}
	}
	return list
}

func wantLen(t testing.TB, s string, want int) {
	t.Helper()
	if got := Len(s); got != want {
		t.Errorf("Len(%q) = %d, not %d", s, got, want)
	}
	if got := May(s); got != (want > 0) {
		t.Errorf("May(%q) = %v, but %d signs are asked for", s, got, want)
	}
}

// wantOrder has a be ahead of b.
func wantOrder(t testing.TB, a, b string) {
	t.Helper()
	if !Less(a, b) || Less(b, a) {
		t.Errorf("Less(%q, %q) = %v, and the other way round %v", a, b, Less(a, b), Less(b, a))
	}
}

// wantSameSigns has neither be ahead.
func wantSameSigns(t testing.TB, a, b string) {
	t.Helper()
	if Less(a, b) || Less(b, a) {
		t.Errorf("Less(%q, %q) = %v, and the other way round %v", a, b, Less(a, b), Less(b, a))
	}
}

func wantSplit(t testing.TB, s, a, b string) {
	t.Helper()
	if x, y, ok := Split(s); x != a || y != b || !ok {
		t.Errorf("Split(%q) = %q, %q, %v, not %q, %q, true", s, x, y, ok, a, b)
	}
}

func wantNoSplit(t testing.TB, s string) {
	t.Helper()
	if x, y, ok := Split(s); x != "" || y != "" || ok {
		t.Errorf("Split(%q) = %q, %q, %v, not noughts", s, x, y, ok)
	}
}

// P5.1, by hand.
func TestLenByHand(t *testing.T) {
	for _, x := range []struct {
		s    string
		want int
	}{
		{"a1", 2}, {"1a", 0}, {"\u00e4", 1}, // the chapter's examples
		{"", 0},
		{"a", 1}, {"m", 1}, {"z", 1}, {"name", 4}, {"na1me2", 6}, {"a11", 3},
		{"abcdefg", 7}, {"abcdefgh", 8}, {"abcdefghi", 0}, {"abcdefghij", 0},
		{"a1234567", 8}, {"a12345678", 0}, {"1abcdefg", 0},
		{strings.Repeat("\u00e4", 4), 4}, // eight bytes
		{strings.Repeat("\u00e4", 5), 5}, // more bytes than a name has signs
		{strings.Repeat("\u00e4", 8), 8}, {strings.Repeat("\u00e4", 9), 0},
		{strings.Repeat("\u00e4", 7) + "a", 8}, {strings.Repeat("\u00e4", 7) + "ab", 0},
		{"abcdefgh1", 0}, {"abcdefgh.", 0}, {"abcdefgh\xff", 0}, {"abcdefg\u00e4", 8}, {"abcdefgh\u00e4", 0},
		{".", 0}, {"a.", 0}, {".a", 0}, {"a.b", 0},
		{"A", 0}, {"aB", 0}, {"\u00c4", 0}, {" ", 0}, {"a ", 0}, {" a", 0}, {"a_b", 0}, {"a-b", 0}, {"a\n", 0}, {"a\x00", 0}, {"\x00", 0},
		{"a\u0308", 0},                                             // a, and a sign for dots above it
		{"\u00aa", 0}, {"\u0131", 0}, {"\u03b1", 0}, {"\u6587", 0}, // letters elsewhere, not here
		{"a\u0661", 0}, {"a\u00b2", 0}, {"a\u00bd", 0}, {"a\uff11", 0}, // digits elsewhere, not here
		{"\U0001d41a", 0}, {"\U00010061", 0}, {"\u0161", 0}, {"a\u0130", 0}, // their last bits are a letter's or a digit's
	} {
		wantLen(t, x.s, x.want)
	}
}

// P5.1, the words' bounds: a sign first, and behind another one.
func TestLenAtTheBounds(t *testing.T) {
	for _, x := range []struct {
		sign          rune
		first, behind bool
	}{
		{47, false, false}, {48, false, true}, {57, false, true}, {58, false, false},
		{96, false, false}, {97, true, true}, {122, true, true}, {123, false, false},
		{222, false, false}, {223, true, true}, {246, true, true}, {247, false, false}, {248, true, true},
		{255, true, true}, {256, false, false}, {65533, false, false},
	} {
		s := string(x.sign)
		wants := []int{0, 0, 0, 0}
		if x.first {
			wants[0], wants[1] = 1, 2
		}
		if x.behind {
			wants[2], wants[3] = 2, 8
		}
		for i, text := range []string{s, s + "a", "a" + s, "abcdefg" + s} {
			wantLen(t, text, wants[i])
		}
	}
}

// P5.1, all signs there are, first and behind.
func TestLenOfEachSign(t *testing.T) {
	for sign := rune(0); sign <= utf8.MaxRune; sign++ {
		if !utf8.ValidRune(sign) {
			continue
		}
		first, behind := 0, 0
		if isLetter(sign) {
			first = 1
		}
		if isLetter(sign) || isDigit(sign) {
			behind = 2
		}
		wantLen(t, string(sign), first)
		wantLen(t, "a"+string(sign), behind)
	}
}

// P5.1: a byte that is no sign's is the sign 65533, and that is no letter.
func TestLenOfBytesThatAreNoSigns(t *testing.T) {
	for b := 128; b < 256; b++ {
		lone := string([]byte{byte(b)})
		for _, s := range []string{lone, lone + "a", "a" + lone, "a" + lone + "b", "abcdefg" + lone, "\u00e4" + lone} {
			wantLen(t, s, 0)
		}
	}
	for _, s := range []string{
		"\ufffd", "a\ufffd", "\ufffda",
		"\xc1\xa1",         // the letter a, in a byte more than need be
		"\xe0\x81\xa1",     // likewise
		"\xe0\x83\xa4",     // the sign 228, likewise
		"\xed\xa0\x80",     // half of a sign
		"\xf4\x90\x80\x80", // beyond all signs
		"\xc3", "\xa4", "\xa4\xc3", "\xc3a", "\xc3.\xa4",
	} {
		wantLen(t, s, 0)
	}
	wantLen(t, "\xc3\xa4", 1)
}

// P5.1, over many texts.
func TestLenAgainstTheWords(t *testing.T) {
	for _, s := range texts() {
		wantLen(t, s, lenOf(s))
	}
	for _, s := range allTexts(8, "b", "7", "\u00f8") {
		wantLen(t, s, lenOf(s))
	}
}

// P5.2, by hand.
func TestLessByHand(t *testing.T) {
	for _, x := range [][2]string{
		{"a", "b"}, {"a", "z"}, {"ab", "b"}, {"ab", "ac"}, {"abcdefgh", "abcdefgi"}, {"a9", "b0"}, {"az", "b"},
		{"", "a"}, {"", "\x00"}, {"", "\xff"}, // an empty text begins all
		{"a", "a0"}, {"a", "aa"}, {"ab", "abc"}, {"\u00e4", "\u00e4a"}, {"\xff", "\xffa"}, // one begins the other one
		{"a", "a\x00"}, {"a\x00", "a0"},
		{"a9", "aa"}, {"a0", "a9"}, {"a10", "a9"}, // digits are signs, not numbers
		{"z", "\u00df"}, {"z", "\u00e4"}, {"az", "a\u00e4"}, {"zzz", "\u00e4"}, {"za", "\u00e4"}, // one byte and two
		{"\u00df", "\u00e4"}, {"\u00e4", "\u00ff"}, {"\u00e4\u00e4", "\u00e4\u00f6"}, {"\u00e4z", "\u00e4\u00e4"},
		{"A", "a"}, {"Z", "a"}, {"a", "\u00c4"}, {"a.b", "a/b"}, {"a.b", "ab"}, {" ", "a"}, // texts that are no names
		{"\u00ff", "\u0100"}, {"\uffff", "\U00010000"}, {"\ue000", "\U0001f600"},
		{"\u00ff", "\xff"}, {"\u0100", "\xc3"}, {"\ufffc", "\xff"}, {"\xff", "\ufffe"}, {"\xff", "\U00010000"}, // a lone byte is the sign 65533
		{"\xff\xfe", "\xfe\xff\x80"}, {"\xffa", "\ufffdb"}, {"\ufffda", "\xffb"}, {"\xff", "\ufffd\xff"}, {"\ufffd", "\xff\ufffd"},
		{"\u00e4", "\xc3"}, {"\u00e4", "\xa4\xc3"},
		{"abcdefghi", "abcdefghj"}, {strings.Repeat("a", 1000), strings.Repeat("a", 1001)},
	} {
		wantOrder(t, x[0], x[1])
	}
}

// P5.2: texts that have the same signs.
func TestLessOfTheSame(t *testing.T) {
	for _, s := range append(texts(), names()...) {
		wantSameSigns(t, s, strings.Clone(s))
	}
	for _, x := range [][2]string{
		{"\xff", "\xfe"}, {"\xff", "\ufffd"}, {"a\x80b", "a\ufffdb"}, {"\xff\xfe", "\ufffd\ufffd"}, {"\xc3", "\xa4"},
		{"\xed\xa0\x80", "\ufffd\ufffd\ufffd"}, {"\xc1\xa1", "\xff\xff"},
	} {
		wantSameSigns(t, x[0], x[1])
	}
}

// P5.2, over many texts.
func TestLessAgainstTheWords(t *testing.T) {
	list := append(texts(), names()...)
	for _, a := range list {
		for _, b := range list {
			if got := Less(a, b); got != lessOf(a, b) {
				t.Fatalf("Less(%q, %q) = %v", a, b, got)
			}
		}
	}
}

// P5.3, by hand.
func TestJoinByHand(t *testing.T) {
	for _, x := range []struct{ a, b, want string }{
		{"a", "b", "a.b"}, {"b", "a", "b.a"}, {"a", "a", "a.a"}, {"a", "b1", "a.b1"}, {"a1", "b", "a1.b"},
		{"\u00e4", "\u00df9", "\u00e4.\u00df9"},
		{"abcdefgh", "ijklmnop", "abcdefgh.ijklmnop"},
		{strings.Repeat("\u00e4", 8), strings.Repeat("\u00ff", 8), strings.Repeat("\u00e4", 8) + "." + strings.Repeat("\u00ff", 8)},
		{"", "", ""}, {"a", "", ""}, {"", "a", ""},
		{"1", "b", ""}, {"a", "1", ""}, {"A", "b", ""}, {"a", "B", ""},
		{"abcdefghi", "a", ""}, {"a", "abcdefghi", ""},
		{".", "a", ""}, {"a", ".", ""}, {"a.", "b", ""}, {"a", ".b", ""}, {"a.b", "c", ""}, {"a", "b.c", ""},
		{"\xff", "a", ""}, {"a", "\xff", ""}, {"\xc3", "\xa4", ""},
	} {
		if got := Join(x.a, x.b); got != x.want {
			t.Errorf("Join(%q, %q) = %q, not %q", x.a, x.b, got, x.want)
		}
	}
}

func TestSplitByHand(t *testing.T) {
	wantSplit(t, "a.b", "a", "b")
	wantSplit(t, "b.a", "b", "a")
	wantSplit(t, "a1.b2", "a1", "b2")
	wantSplit(t, "\u00e4.b", "\u00e4", "b")
	wantSplit(t, "a.\u00e4", "a", "\u00e4")
	wantSplit(t, "abcdefgh.ijklmnop", "abcdefgh", "ijklmnop")
	wantSplit(t, strings.Repeat("\u00e4", 8)+".\u00ff", strings.Repeat("\u00e4", 8), "\u00ff")
	for _, s := range []string{
		"", "a", "ab", "abcdefgh", "abcdefghi", "\u00e4", // no point
		".", "a.", ".b", // first and last
		"..", "a..", "..b", "a..b", ".a.", ".a.b", "a.b.", "a.b.c", "a.b.c.d", // more than one
		"1.b", "a.1", "A.b", "a.B", "a .b", "a. b", "a.b ", "a.\u00f7", "\u00de.b",
		"abcdefghi.b", "a.abcdefghi",
		"a\xff.b", "\xff.b", "a.\xff", "a\xff", "a.b\xc3", "\xc3.\xa4", "a\xc3.b",
		"a\u3002b", "a\u00b7b", "a\u022eb", "a,b", "a\uff0eb", // no point, though some end by its bits
	} {
		wantNoSplit(t, s)
	}
}

// P5.3, over many texts.
func TestJoinAgainstTheWords(t *testing.T) {
	list := append(texts(), names()...)
	for _, a := range list {
		for _, b := range list {
			if got := Join(a, b); got != joinOf(a, b) {
				t.Fatalf("Join(%q, %q) = %q", a, b, got)
			}
		}
	}
}

func TestSplitAgainstTheWords(t *testing.T) {
	list := allTexts(6, "a", "1", "\u00e4", ".", "\xc3")
	for _, a := range []string{"", "a", "1", "abcdefgh", "abcdefghi", strings.Repeat("\u00e4", 8), strings.Repeat("\u00e4", 9), "\xff", "a.b"} {
		for _, b := range append(texts(), "abcdefgh", "abcdefghi") {
			list = append(list, a+b, a+"."+b, b+"."+a)
		}
	}
	for _, s := range list {
		a, b, ok := splitOf(s)
		if x, y, is := Split(s); x != a || y != b || is != ok {
			t.Fatalf("Split(%q) = %q, %q, %v, not %q, %q, %v", s, x, y, is, a, b, ok)
		}
	}
}

// P5.4: of two names one is ahead, or they are the same; and so they can be put in one order.
func TestOneNameIsAhead(t *testing.T) {
	list := names()
	for _, a := range list {
		for _, b := range list {
			ways := 0
			for _, is := range []bool{Less(a, b), Less(b, a), a == b} {
				if is {
					ways++
				}
			}
			if ways != 1 {
				t.Fatalf("%q and %q: %v, %v", a, b, Less(a, b), Less(b, a))
			}
		}
	}
	slices.SortFunc(list, func(a, b string) int {
		switch {
		case Less(a, b):
			return -1
		case Less(b, a):
			return 1
		}
		return 0
	})
	for i, b := range list {
		for _, a := range list[:i] {
			if Less(b, a) {
				t.Fatalf("%q is sorted ahead of %q", a, b)
			}
		}
	}
}

// P5.4: what is joined is split as it was.
func TestJoinedIsSplit(t *testing.T) {
	list := names()
	for _, a := range list {
		for _, b := range list {
			if x, y, ok := Split(Join(a, b)); x != a || y != b || !ok {
				t.Fatalf("%q and %q, joined and split, are %q, %q, %v", a, b, x, y, ok)
			}
		}
	}
}

// P1 and R1: the calls end soon, whatever they are given.
func TestLongTexts(t *testing.T) {
	list := long()
	for _, a := range list {
		wantLen(t, a, 0)
		wantNoSplit(t, a)
		if Join(a, "b") != "" || Join("b", a) != "" {
			t.Errorf("a text of %d bytes is joined", len(a))
		}
		wantSameSigns(t, a, strings.Clone(a))
		wantOrder(t, a, a+"a")
		for _, b := range list {
			if got := Less(a, b); got != lessOf(a, b) {
				t.Errorf("Less of texts that begin by %q and %q = %v", a[:4], b[:4], got)
			}
		}
	}
}

// R5: what is answered does not hang on what was asked before.
func TestAskedAgain(t *testing.T) {
	list := texts()
	for range 2 {
		for i, s := range list {
			before := Len(s)
			Split(list[len(list)-1-i])
			Less(s, list[len(list)-1-i])
			Join("a", s)
			wantLen(t, s, before)
		}
	}
}

func FuzzNames(f *testing.F) {
	for _, s := range []string{"", "a1", "1a", "\u00e4.b", "a.b.c", "\xff", "\xc3.\xa4"} {
		f.Add(s, "a")
	}
	f.Fuzz(func(t *testing.T, a, b string) {
		wantLen(t, a, lenOf(a))
		if Less(a, b) != lessOf(a, b) {
			t.Errorf("Less(%q, %q) = %v", a, b, Less(a, b))
		}
		if Join(a, b) != joinOf(a, b) {
			t.Errorf("Join(%q, %q) = %q", a, b, Join(a, b))
		}
		for _, s := range []string{a, a + "." + b} {
			x, y, ok := splitOf(s)
			if p, q, is := Split(s); p != x || q != y || is != ok {
				t.Errorf("Split(%q) = %q, %q, %v", s, p, q, is)
			}
		}
	})
}
