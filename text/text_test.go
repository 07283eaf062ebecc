package text_test

import (
	"cmp"
	"math"
	"slices"
	"strings"
	"testing"
	"unicode/utf8"
	"unsafe"

	"newsreel/text"
)

// whites: the runes that are white, one by one.
var whites = []rune{
	9, 10, 11, 12, 13, 32, 133, 160, 5760,
	8192, 8193, 8194, 8195, 8196, 8197, 8198, 8199, 8200, 8201, 8202,
	8232, 8233, 8239, 8287, 12288,
}

// bares: the runes that are bare, one by one.
var bares = []rune{
	0, 1, 2, 3, 4, 5, 6, 7, 8,
	14, 15, 16, 17, 18, 19, 20, 21, 22, 23, 24, 25, 26, 27, 28, 29, 30, 31,
	127, 128, 129, 130, 131, 132,
	134, 135, 136, 137, 138, 139, 140, 141, 142, 143,
	144, 145, 146, 147, 148, 149, 150, 151, 152, 153, 154, 155, 156, 157, 158, 159,
}

// The capitals that Fold knows, and the small letters of them, one below the other.
const (
	capitals = "ABCDEFGHIJKLMNOPQRSTUVWXYZ" +
		"ÀÁÂÃÄÅÆÇÈÉÊËÌÍÎÏÐÑÒÓÔÕÖØÙÚÛÜÝÞ" +
		"ΑΒΓΔΕΖΗΘΙΚΛΜΝΞΟΠΡΣΤΥΦΧΨΩΪΫ" +
		"ЀЁЂЃЄЅІЇЈЉЊЋЌЍЎЏ" +
		"АБВГДЕЖЗИЙКЛМНОПРСТУФХЦЧШЩЪЫЬЭЮЯ"
	smalls = "abcdefghijklmnopqrstuvwxyz" +
		"àáâãäåæçèéêëìíîïðñòóôõöøùúûüýþ" +
		"αβγδεζηθικλμνξοπρστυφχψωϊϋ" +
		"ѐёђѓєѕіїјљњћќѝўџ" +
		"абвгдежзийклмнопрстуфхцчшщъыьэюя"
)

// pieces: what texts are put together of: runes of one to four bytes, white and
// bare ones, capitals and small letters, bytes that are none of UTF-8.
var pieces = []string{
	" ", "\t", "\u00a0", "\u3000", "\u0085", "\x01", "\x7f", "\u0080",
	"a", "A", "b", "7", "-", "é", "É", "×", "語", "\ufffd", "\U0001f600", "\xff", "\xc3", "\xe2\x82",
}

// plain: the rune that r is, folded, by the two alphabets.
func plain() map[rune]rune {
	small := map[rune]rune{}
	to := []rune(smalls)
	for i, r := range []rune(capitals) {
		small[r] = to[i]
	}
	return small
}

var small = plain()

func white(r rune) bool {
	return slices.Contains(whites, r)
}

// letter: whether the document calls r a letter.
func letter(r rune) bool {
	if strings.ContainsRune("abcdefghijklmnopqrstuvwxyzABCDEFGHIJKLMNOPQRSTUVWXYZ0123456789", r) {
		return true
	}
	return r > 191 && r != 215 && r != 247 && r != 65533 && !(r > 8191 && r < 8304) && !white(r)
}

// cleaned: Clean of s, by another hand.
func cleaned(s string) string {
	rest := slices.DeleteFunc([]rune(s), func(r rune) bool { return slices.Contains(bares, r) })
	return strings.Join(strings.FieldsFunc(string(rest), white), " ")
}

// cutted: Cut of s and n, by another hand.
func cutted(s string, n int) string {
	l := []rune(cleaned(s))
	return strings.TrimRight(string(l[:max(0, min(n, len(l)))]), " ")
}

// lowered: Fold of s, by another hand.
func lowered(s string) string {
	l := []rune(s)
	for i, r := range l {
		l[i] = cmp.Or(small[r], r)
	}
	return string(l)
}

// parted: Words of s, by another hand.
func parted(s string) []string {
	return strings.FieldsFunc(lowered(s), func(r rune) bool { return !letter(r) })
}

// compared: below 0 if a is ahead of b, 0 if they are the same, by another hand.
func compared(a, b string) int {
	return cmp.Or(slices.Compare([]rune(lowered(a)), []rune(lowered(b))), strings.Compare(a, b))
}

// texts: all texts of up to n pieces.
func texts(n int) []string {
	all := []string{""}
	last := all
	for range n {
		var next []string
		for _, s := range last {
			for _, p := range pieces {
				next = append(next, s+p)
			}
		}
		all = append(all, next...)
		last = next
	}
	return all
}

// P4.1: Clean, at the edges that the document names.
func TestClean(t *testing.T) {
	for _, x := range []struct{ s, want string }{
		{"", ""},
		{"a", "a"},
		{"A b", "A b"},
		{"\tA  b", "A b"},
		{" ", ""},
		{" \t\n\v\f\r\u0085\u00a0\u1680\u2000\u2028\u3000", ""},
		{"\x00", ""},
		{"\x00\x01\x08\x0e\x1f\x7f\u0080\u0084\u0086\u009f", ""},
		{" \x01 ", ""},
		{"\x01 \x01", ""},
		{"  a", "a"},
		{"a  ", "a"},
		{"\x01a\x02b\x03", "ab"},
		{"a \x01\x02 b", "a b"},
		{"a\x01 b", "a b"},
		{"a \x01b", "a b"},
		{"a\x01 \x01 \x01b", "a b"},
		{"\x01 a \x01", "a"},
		{"a\r\nb\r\n\r\nc\r\n", "a b c"},
		{"\xffa", "\ufffda"},
		{"a\xffb", "a\ufffdb"},
		{"a\xff", "a\ufffd"},
		{" \xff ", "\ufffd"},
		{"\xff \xff", "\ufffd \ufffd"},
		{"\x80\xbf", "\ufffd\ufffd"},
		{"\xe2\x82", "\ufffd\ufffd"},
		{"\xf0\x9f\x98", "\ufffd\ufffd\ufffd"},
		{"\xf0\x9f\x98a", "\ufffd\ufffd\ufffda"},
		{"\xc0\xa0a\xc1\xbf", "\ufffd\ufffda\ufffd\ufffd"},
		{"\xed\xa0\x80", "\ufffd\ufffd\ufffd"},
		{"\xf4\x90\x80\x80", "\ufffd\ufffd\ufffd\ufffd"},
		{"\xc2", "\ufffd"},
		{"\xc2 \xa0", "\ufffd \ufffd"},
		{"\x85", "\ufffd"},
		{"\xa0", "\ufffd"},
		{"\ufffd", "\ufffd"},
		{"a\u00e9\u20ac\U0001f600", "a\u00e9\u20ac\U0001f600"},
		{"a\u00e9 \u20ac\u3000\U0001f600\u00a0", "a\u00e9 \u20ac \U0001f600"},
		{"\U0010ffff", "\U0010ffff"},
		{"\ufeffa\u200bb\u2060", "\ufeffa\u200bb\u2060"},
	} {
		if s := text.Clean(x.s); s != x.want {
			t.Errorf("Clean of %q: %q, not %q", x.s, s, x.want)
		}
		if is := text.Right(x.s, math.MaxInt); is != (x.s == x.want) {
			t.Errorf("Right of %q: %v", x.s, is)
		}
	}
}

// P4.1: the lists of the document hold, for each rune that there is.
func TestCleanOfEachRune(t *testing.T) {
	kept := 0
	for r := range rune(utf8.MaxRune + 1) {
		if !utf8.ValidRune(r) {
			continue
		}
		alone, between, right := string(r), "a"+string(r)+"b", true
		switch {
		case slices.Contains(whites, r):
			alone, between, right = "", "a b", r == ' '
		case slices.Contains(bares, r):
			alone, between, right = "", "ab", false
		default:
			kept++
		}
		s := "a" + string(r) + "b"
		if got := text.Clean(string(r)); got != alone {
			t.Errorf("Clean of the rune %d: %q, not %q", r, got, alone)
		}
		if got := text.Clean(s); got != between {
			t.Errorf("Clean of %q: %q, not %q", s, got, between)
		}
		if is := text.Right(s, 3); is != right {
			t.Errorf("Right of %q: %v", s, is)
		}
		if n := text.Runes(s); n != 3 {
			t.Errorf("Runes of %q: %d", s, n)
		}
	}
	if n := utf8.MaxRune + 1 - 2048 - len(whites) - len(bares); kept != n {
		t.Errorf("Clean keeps %d runes, not %d", kept, n)
	}
}

// P4.1: a run of white runes is one blank, whichever they are, bare ones between
// them or not; bare ones alone part nothing.
func TestRunsOfWhite(t *testing.T) {
	for _, x := range whites {
		for _, y := range whites {
			for _, between := range []string{"", "\x00", "\x1f\x7f", "\u0080\u009f\u0084"} {
				run := string(x) + between + string(y)
				if s := text.Clean("é" + run + "é"); s != "é é" {
					t.Errorf("Clean of %q between letters: %q", run, s)
				}
				if s := text.Clean(run + "é" + run); s != "é" {
					t.Errorf("Clean of %q about a letter: %q", run, s)
				}
				if s := text.Clean(run); s != "" {
					t.Errorf("Clean of %q: %q", run, s)
				}
			}
		}
	}
}

// P4.1, P4.2: what all calls answer of a text, against another hand.
func check(t *testing.T, s string) {
	t.Helper()
	clean := cleaned(s)
	if got := text.Clean(s); got != clean {
		t.Errorf("Clean of %q: %q, not %q", s, got, clean)
	}
	n := utf8.RuneCountInString(s)
	if got := text.Runes(s); got != n {
		t.Errorf("Runes of %q: %d, not %d", s, got, n)
	}
	for _, most := range []int{math.MinInt, -1, 0, n - 1, n, n + 1, math.MaxInt} {
		if is := text.Right(s, most); is != (clean == s && n <= most) {
			t.Errorf("Right of %q and %d: %v", s, most, is)
		}
	}
	for most := -2; most < n+3; most++ {
		if got := text.Cut(s, most); got != cutted(s, most) {
			t.Errorf("Cut of %q and %d: %q, not %q", s, most, got, cutted(s, most))
		}
	}
	if got := text.Fold(s); got != lowered(s) {
		t.Errorf("Fold of %q: %q, not %q", s, got, lowered(s))
	}
	if got := text.Words(s); !slices.Equal(got, parted(s)) {
		t.Errorf("Words of %q: %q, not %q", s, got, parted(s))
	}
	if again := text.Clean(text.Clean(s)); again != clean {
		t.Errorf("Clean of Clean of %q: %q, not %q", s, again, clean)
	}
}

// P4.1, P4.2, P4.3: all texts of few pieces.
func TestTexts(t *testing.T) {
	for _, s := range texts(3) {
		check(t, s)
	}
	for _, s := range texts(2) {
		check(t, strings.Repeat(s, 9))
		check(t, s+strings.Repeat("x", 70)+s)
	}
}

// P4.1: Right, about the number of runes.
func TestRight(t *testing.T) {
	for _, x := range []struct {
		s    string
		most int
		want bool
	}{
		{"", 0, true},
		{"", 1, true},
		{"", -1, false},
		{"", math.MinInt, false},
		{"", math.MaxInt, true},
		{"a", 0, false},
		{"a", -1, false},
		{"a", 1, true},
		{"a b", 2, false},
		{"a b", 3, true},
		{"a b", 4, true},
		{"a b", math.MinInt, false},
		{"é語\U0001f600", 3, true},
		{"é語\U0001f600", 2, false},
		{"\ufffd", 1, true},
		{"\xff", 1, false},
		{"\xff", 9, false},
		{"a\xff", 9, false},
		{"\xffa", 9, false},
		{" a", 9, false},
		{"a ", 9, false},
		{" ", 9, false},
		{"a  b", 9, false},
		{"a\tb", 9, false},
		{"a\u00a0b", 9, false},
		{"a\x01b", 9, false},
		{"a\u0080b", 9, false},
		{strings.Repeat("語", 120), 120, true},
		{strings.Repeat("語", 121), 120, false},
		{strings.Repeat("語", 120), 119, false},
	} {
		if is := text.Right(x.s, x.most); is != x.want {
			t.Errorf("Right of %q and %d: %v", x.s, x.most, is)
		}
	}
}

// P4.1: Runes counts what is in s as it stands; a byte that is none of UTF-8 is one.
func TestRunes(t *testing.T) {
	for _, x := range []struct {
		s string
		n int
	}{
		{"", 0}, {"a", 1}, {" a ", 3}, {"  ", 2}, {"\x00\x01", 2}, {"é", 1}, {"€", 1}, {"\U0001f600", 1}, {"aé€\U0001f600", 4},
		{"\xff", 1}, {"\xffa\xff", 3}, {"\xe2\x82", 2}, {"\xe2\x82\xac", 1}, {"\xed\xa0\x80", 3}, {"\xf0\x9f\x98", 3}, {"\xf4\x90\x80\x80", 4}, {"\xc0\x80", 2},
		{"e\u0301", 2}, {"\r\n", 2}, {"\ufffd", 1}, {strings.Repeat("é", 1000), 1000}, {strings.Repeat("\xbf", 1000), 1000},
	} {
		if n := text.Runes(x.s); n != x.n {
			t.Errorf("Runes of %q: %d, not %d", x.s, n, x.n)
		}
	}
}

// P4.1: Cut, at a blank, at the number of runes, and beyond it.
func TestCut(t *testing.T) {
	for _, x := range []struct {
		s    string
		n    int
		want string
	}{
		{"", -1, ""}, {"", 0, ""}, {"", 1, ""}, {"", math.MaxInt, ""}, {"", math.MinInt, ""},
		{"ab", math.MinInt, ""}, {"ab", -1, ""}, {"ab", 0, ""}, {"ab", 1, "a"}, {"ab", 2, "ab"}, {"ab", 3, "ab"}, {"ab", math.MaxInt, "ab"},
		{" \ta\x01 \x02 b\n", 0, ""},
		{" \ta\x01 \x02 b\n", 1, "a"},
		{" \ta\x01 \x02 b\n", 2, "a"},
		{" \ta\x01 \x02 b\n", 3, "a b"},
		{" \ta\x01 \x02 b\n", 4, "a b"},
		{" \t\x01", 2, ""},
		{"a b c", 2, "a"}, {"a b c", 3, "a b"}, {"a b c", 4, "a b"}, {"a b c", 5, "a b c"},
		{"é語 \U0001f600x", 1, "é"}, {"é語 \U0001f600x", 2, "é語"}, {"é語 \U0001f600x", 3, "é語"}, {"é語 \U0001f600x", 4, "é語 \U0001f600"}, {"é語 \U0001f600x", 5, "é語 \U0001f600x"},
		{"\xff\xffa", 1, "\ufffd"}, {"\xff\xffa", 2, "\ufffd\ufffd"}, {"\xff\xffa", 3, "\ufffd\ufffda"},
		{strings.Repeat("語", 121), 120, strings.Repeat("語", 120)},
		{strings.Repeat("語 ", 121), 120, strings.Repeat("語 ", 59) + "語"},
	} {
		if s := text.Cut(x.s, x.n); s != x.want {
			t.Errorf("Cut of %q and %d: %q, not %q", x.s, x.n, s, x.want)
		}
	}
}

// P4.2: Fold, at the ends of its ranges and in what lies between them; it leaves
// white and bare runes where they are.
func TestFold(t *testing.T) {
	for _, x := range []struct{ s, want string }{
		{"", ""},
		{"aZ", "az"},
		{"@AZ[", "@az["},
		{"`az{", "`az{"},
		{"\u00bf\u00c0\u00d6\u00d7\u00d8\u00de\u00df", "\u00bf\u00e0\u00f6\u00d7\u00f8\u00fe\u00df"},
		{"\u00e0\u00f6\u00f7\u00f8\u00fe\u00ff", "\u00e0\u00f6\u00f7\u00f8\u00fe\u00ff"},
		{"\u0390\u0391\u03a1\u03a2\u03a3\u03ab\u03ac", "\u0390\u03b1\u03c1\u03a2\u03c3\u03cb\u03ac"},
		{"\u03ff\u0400\u040f\u0410\u042f\u0430", "\u03ff\u0450\u045f\u0430\u044f\u0430"},
		{"\u044f\u0450\u045f\u0460", "\u044f\u0450\u045f\u0460"},
		{"\u0100\u0130\u0178\u1e9e\u2126\u212a\uff21\U00010400", "\u0100\u0130\u0178\u1e9e\u2126\u212a\uff21\U00010400"},
		{" A\t\tB\x01\u0085C ", " a\t\tb\x01\u0085c "},
		{"\xffA", "\ufffda"},
		{"A\xffB", "a\ufffdb"},
		{"A\xc3", "a\ufffd"},
		{"\xe2\x82\xf0\x9f\x98", "\ufffd\ufffd\ufffd\ufffd\ufffd"},
		{"\ufffd", "\ufffd"},
		{capitals, smalls},
		{smalls, smalls},
	} {
		if s := text.Fold(x.s); s != x.want {
			t.Errorf("Fold of %q: %q, not %q", x.s, s, x.want)
		}
	}
}

// P4.2: Fold and Words hold for each rune that there is.
func TestFoldAndWordsOfEachRune(t *testing.T) {
	if len(small) != 26+30+26+16+32 {
		t.Fatalf("%d capitals", len(small))
	}
	for r := range rune(utf8.MaxRune + 1) {
		if !utf8.ValidRune(r) {
			continue
		}
		want := string(cmp.Or(small[r], r))
		if s := text.Fold(string(r)); s != want {
			t.Errorf("Fold of the rune %d: %q, not %q", r, s, want)
		}
		alone, between := []string{want}, []string{"x" + want + "y"}
		if !letter(r) {
			alone, between = nil, []string{"x", "y"}
		}
		if l := text.Words(string(r)); !slices.Equal(l, alone) {
			t.Errorf("Words of the rune %d: %q, not %q", r, l, alone)
		}
		if l := text.Words("X" + string(r) + "Y"); !slices.Equal(l, between) {
			t.Errorf("Words of the rune %d between letters: %q, not %q", r, l, between)
		}
	}
}

// P4.2: Words, in their order, each as often as it stands there.
func TestWords(t *testing.T) {
	for _, x := range []struct {
		s    string
		want []string
	}{
		{"", nil},
		{" ", nil},
		{" ,;-_!\t\x01\u00d7\u00f7\u2014\ufffd\xff", nil},
		{"Ångström, 1 x!", []string{"ångström", "1", "x"}},
		{"x", []string{"x"}},
		{"x ", []string{"x"}},
		{" x", []string{"x"}},
		{"A", []string{"a"}},
		{"b a B a", []string{"b", "a", "b", "a"}},
		{"ab9Z", []string{"ab9z"}},
		{"don't", []string{"don", "t"}},
		{"a\x01b", []string{"a", "b"}},
		{"a\xffb", []string{"a", "b"}},
		{"\xffb", []string{"b"}},
		{"b\xff", []string{"b"}},
		{"\xe2\x82a\xe2\x82", []string{"a"}},
		{"/0:/9:@A[@Z[`a{`z{", []string{"0", "9", "a", "z", "a", "z"}},
		{"\u00aa\u00b5\u00bf\u00c0\u00d6\u00d7\u00d8\u00f6\u00f7\u00f8\u00ff", []string{"\u00e0\u00f6", "\u00f8\u00f6", "\u00f8\u00ff"}},
		{"\u1fff\u2000\u2001\u206f\u2070", []string{"\u1fff", "\u2070"}},
		{"\u167f\u1680\u1681\u2fff\u3000\u3001", []string{"\u167f", "\u1681\u2fff", "\u3001"}},
		{"\ufffc\ufffd\ufffe", []string{"\ufffc", "\ufffe"}},
		{"ΝΈΑ Новости 新聞 \U0001f600", []string{"νΈα", "новости", "新聞", "\U0001f600"}},
	} {
		if l := text.Words(x.s); !slices.Equal(l, x.want) {
			t.Errorf("Words of %q: %q, not %q", x.s, l, x.want)
		}
	}
}

// rising: texts, each ahead of the next.
var rising = []string{
	"", "\x00", "\t", " ", "  ", "!", "0", "9", "[", "_",
	"A", "a", "A\x00", "a\x00", "a A", "a a", "A Z", "AA", "Aa", "aA", "aa", "AB", "Ab", "aB", "ab", "AB!", "ab!", "abA", "aba", "AC", "ac",
	"B", "b", "Z", "z", "z\U0010ffff", "{", "\u00bf",
	"×", "ß", "À", "à", "É", "É!", "é!", "÷", "Þ", "þ", "ÿ", "Ā", "\u03a2", "Ω", "ω", "А", "а", "Я", "я", "Ѐ", "ѐ", "Џ", "џ",
	"€", "語", "\uffff", "\U00010000", "\U0010ffff",
}

// P4.2: Less goes by the runes, folded; then by who has fewer; then by the bytes.
func TestLess(t *testing.T) {
	for i, a := range rising {
		for k, b := range rising {
			if is := text.Less(a, b); is != (i < k) {
				t.Errorf("Less of %q and %q: %v", a, b, is)
			}
		}
	}
	for _, x := range []struct{ a, b string }{
		{"\ufffc", "\xff"},
		{"\xff", "\ufffe"},
		{"\ufffd", "\xff"},
		{"\x80", "\xff"},
		{"\xe2", "\xe2\x82"},
		{"\xe2\x82\xac", "\xe2\x82"},
		{"a\ufffd", "a\xff"},
		{"\xffA", "\xffa"},
		{"\xc3A", "\ufffda"},
		{"\ufffda", "\xffB"},
		{"\ufffda", "\xffa"},
		{"\xffa", "\ufffdb"},
		{"\uffff", "\U00010000"},
		{"\xff", "\U00010000"},
		{"АБ", "аб"},
		{strings.Repeat("x", 200) + "A", strings.Repeat("x", 200) + "a"},
		{strings.Repeat("X", 200) + "a", strings.Repeat("x", 200) + "B"},
		{strings.Repeat("x", 200), strings.Repeat("X", 201)},
	} {
		if !text.Less(x.a, x.b) || text.Less(x.b, x.a) || text.Less(x.a, x.a) || text.Less(x.b, x.b) {
			t.Errorf("Less of %q and %q: %v, the other way %v", x.a, x.b, text.Less(x.a, x.b), text.Less(x.b, x.a))
		}
	}
}

// P4.2, P4.3: of any two texts that are unlike, one is ahead, and it is the one
// that the document's words make it.
func TestLessOfEachPair(t *testing.T) {
	all := texts(2)
	for _, a := range all {
		for _, b := range all {
			if is := text.Less(a, b); is != (compared(a, b) < 0) {
				t.Fatalf("Less of %q and %q: %v", a, b, is)
			}
			if text.Less(a, b) == text.Less(b, a) && a != b {
				t.Fatalf("Less of %q and %q is the same both ways", a, b)
			}
		}
	}
}

// P4.3: what is ahead of one is ahead of all that it is ahead of; so a list is put
// in one order, whichever it was in.
func TestLessOrders(t *testing.T) {
	few := append(texts(1), "aA", "Aa", "a\xff", "a\ufffd", "A\xff", "É\xc3", "é\ufffd", "a é", "\xff\xff", "\ufffd\xff")
	for _, a := range few {
		for _, b := range few {
			for _, c := range few {
				if text.Less(a, b) && text.Less(b, c) && !text.Less(a, c) {
					t.Fatalf("%q is ahead of %q, this of %q; but not the first of the last", a, b, c)
				}
			}
		}
	}
	order := func(a, b string) int {
		switch {
		case text.Less(a, b):
			return -1
		case text.Less(b, a):
			return 1
		}
		return 0
	}
	there := texts(2)
	back := slices.Clone(there)
	slices.Reverse(back)
	slices.SortFunc(there, order)
	slices.SortFunc(back, order)
	if !slices.Equal(there, back) {
		t.Errorf("a list and the same list from its end on, both sorted, are unlike")
	}
}

// overlap: whether a and b lie in the same memory, at least in part.
func overlap(a, b string) bool {
	if a == "" || b == "" {
		return false
	}
	x, y := uintptr(unsafe.Pointer(unsafe.StringData(a))), uintptr(unsafe.Pointer(unsafe.StringData(b)))
	return x < y+uintptr(len(b)) && y < x+uintptr(len(a))
}

// Rule 3: what is handed in stays, and what is answered is new memory.
func TestNothingChanged(t *testing.T) {
	for _, kept := range []string{"plain", "Two words", " Not \x01 clean\xff ", "語É", "a"} {
		s := strings.Clone(kept + " and more")[:len(kept)]
		for _, got := range append(text.Words(s), text.Clean(s), text.Cut(s, 3), text.Cut(s, 99), text.Fold(s)) {
			if overlap(got, s) {
				t.Errorf("of %q %q was answered, which lies in it", s, got)
			}
		}
		text.Right(s, 9)
		text.Runes(s)
		text.Less(s, s+"!")
		if s != kept {
			t.Errorf("%q was handed in, and is %q now", kept, s)
		}
	}
}

// Rule 3: who changes a list that was answered changes no other one.
func TestListsApart(t *testing.T) {
	const s = "One two three four five"
	first, second := text.Words(s), text.Words(s)
	want := slices.Clone(first)
	clear(first[:cap(first)])
	if !slices.Equal(second, want) || !slices.Equal(text.Words(s), want) {
		t.Errorf("one list of words was changed, another one is %q now, not %q", second, want)
	}
}

func FuzzTexts(f *testing.F) {
	for i, s := range rising {
		f.Add(s, rising[len(rising)-1-i])
	}
	f.Add(strings.Join(pieces, ""), strings.Join(pieces, " "))
	f.Fuzz(func(t *testing.T, a, b string) {
		check(t, a)
		check(t, a+b)
		if is := text.Less(a, b); is != (compared(a, b) < 0) {
			t.Errorf("Less of %q and %q: %v", a, b, is)
		}
	})
}
