package engine_test

import (
	"slices"
	"strings"
	"testing"

	"reedbed/api"
	"reedbed/engine"
	"reedbed/match"
	"reedbed/parse"
	"reedbed/sample"
)

// tells asks an engine what is in a text.
func tells(t *testing.T, e *engine.Engine, pattern, text string, want []api.Hit) {
	t.Helper()
	if all := e.All(text); !slices.Equal(all, want) {
		t.Fatalf("%q in %q: %v; want %v", pattern, text, all, want)
	}
	if is := e.Is(text); is != (len(want) > 0) {
		t.Fatalf("%q in %q: %t; want %v", pattern, text, is, want)
	}
	if n := e.Count(text); n != len(want) {
		t.Fatalf("%q in %q: %d; want %v", pattern, text, n, want)
	}
}

// finds asks for what is in texts of few code points: what is read plainly.
func finds(t *testing.T, pattern string, texts ...string) {
	t.Helper()
	e := made(t, pattern)
	_, p := layers(t, pattern)
	for _, text := range texts {
		tells(t, e, pattern, text, sample.Read(p, text).All())
	}
}

// findsAsMatch asks for what is in texts of any length: layer 11's All.
func findsAsMatch(t *testing.T, pattern string, texts ...string) {
	t.Helper()
	e := made(t, pattern)
	_, p := layers(t, pattern)
	for _, text := range texts {
		tells(t, e, pattern, text, match.All(p, text))
	}
}

// row is a pattern, a text, and the matches in it.
type row struct {
	pattern, text string
	want          []api.Hit
}

func rows(t *testing.T, all ...row) {
	t.Helper()
	for _, x := range all {
		tells(t, made(t, x.pattern), x.pattern, x.text, x.want)
		finds(t, x.pattern, x.text)
	}
}

// P13.2

func TestFind(t *testing.T) {
	rows(t,
		row{"b+", "abba", hits(1, 3)}, row{"b+", "", nil}, row{"b+", "aa", nil}, row{"b+", "abab", hits(1, 2, 3, 4)}, row{".", "ab", hits(0, 1, 1, 2)}, row{"[ab]", "xaxb", hits(1, 2, 3, 4)}, row{"a|ab", "abab", hits(0, 2, 2, 4)},
		// Nothing.
		row{`[^\d\D]`, "", nil}, row{`[^\d\D]`, "abc", nil}, row{`a[^\d\D]`, "aaa", nil}, row{`[^\d\D]a`, "aaa", nil}, row{"a^", "aa", nil}, row{"$a", "aa", nil}, row{"^a^", "a", nil}, row{"a$b", "ab", nil}, row{`[^\d\D]+|a`, "ba", hits(1, 2)},
		// The empty match alone, at each place.
		row{"", "", hits(0, 0)}, row{"", "ab", hits(0, 0, 1, 1, 2, 2)}, row{"()", "\u00e9\xff\u20ac", hits(0, 0, 2, 2, 3, 3, 6, 6)}, row{"a{0}", "aa", hits(0, 0, 1, 1, 2, 2)}, row{`[^\d\D]*`, "a\U0001f600", hits(0, 0, 1, 1, 5, 5)}, row{"|", "\xe2\x82", hits(0, 0, 1, 1, 2, 2)}, row{"^", "aa", hits(0, 0)}, row{"$", "aa", hits(2, 2)}, row{"^$", "", hits(0, 0)}, row{"^$", "a", nil}, row{"^|$", "ab", hits(0, 0, 2, 2)},
		// Right behind a match it isn't told.
		row{"a*", "baac", hits(0, 0, 1, 3, 4, 4)}, row{"a*", "aa", hits(0, 2)}, row{"a?", "aab", hits(0, 1, 1, 2, 3, 3)}, row{"ab|", "abab", hits(0, 2, 2, 4)}, row{"ab|", "abaab", hits(0, 2, 3, 5)}, row{"a|$", "aa", hits(0, 1, 1, 2)}, row{"^|b", "ab", hits(0, 0, 1, 2)},
		// All.
		row{".*", "abc", hits(0, 3)}, row{".*", "", hits(0, 0)}, row{".*", "a\nb", hits(0, 1, 2, 3)}, row{"(.|\n)*", "a\n\xffb", hits(0, 4)}, row{"^(.|\n)*$", "a\nb", hits(0, 3)}, row{".*$", "ab", hits(0, 2)},
		row{"^a", "aa", hits(0, 1)}, row{"a$", "aa", hits(1, 2)}, row{"^a*$", "aa", hits(0, 2)}, row{"^ab", "abab", hits(0, 2)}, row{"ab$", "abab", hits(2, 4)}, row{"ab$", "aba", nil},
	)
}

// TestJustOneText: patterns that match nothing else.
func TestJustOneText(t *testing.T) {
	for _, pattern := range []string{"ab", "(ab)", "a()b", "[a]b", "ab|ab", "a{1}(b|b)", "(ab){1}", "(|)ab()", "x{0}ab"} {
		rows(t,
			row{pattern, "", nil}, row{pattern, "a", nil}, row{pattern, "b", nil}, row{pattern, "ba", nil}, row{pattern, "xx", nil}, row{pattern, "aAb", nil},
			row{pattern, "ab", hits(0, 2)}, row{pattern, "abx", hits(0, 2)}, row{pattern, "xabx", hits(1, 3)}, row{pattern, "xab", hits(1, 3)}, row{pattern, "aab", hits(1, 3)}, row{pattern, "abb", hits(0, 2)}, row{pattern, "abxabab", hits(0, 2, 3, 5, 5, 7)}, row{pattern, "abab", hits(0, 2, 2, 4)},
			row{pattern, "\xffab\xff", hits(1, 3)}, row{pattern, "a\xffb", nil}, row{pattern, "\xc3ab\xe2\x82", hits(1, 3)}, row{pattern, "\u00e9ab\U0001f600ab", hits(2, 4, 8, 10)},
		)
	}
	rows(t,
		row{"a", "aaa", hits(0, 1, 1, 2, 2, 3)}, row{"a", "bab", hits(1, 2)}, row{`\n`, "a\n\n", hits(1, 2, 2, 3)}, row{`\.`, "a.b", hits(1, 2)}, row{"\x00", "\x00a\x00", hits(0, 1, 2, 3)},
		// Overlapping: the first one is told.
		row{"aa", "aaaaa", hits(0, 2, 2, 4)}, row{"aba", "ababa", hits(0, 3)}, row{"aba", "abababa", hits(0, 3, 4, 7)}, row{"aabaa", "aabaabaabaa", hits(0, 5, 6, 11)}, row{"abab", "xababab", hits(1, 5)}, row{"a{3}", "aaaaaaa", hits(0, 3, 3, 6)}, row{"(ab){2}", "abababab", hits(0, 4, 4, 8)}, row{"\u00e9\u00e9", "\u00e9\u00e9\u00e9", hits(0, 4)},
		row{"a\u00e9", "a\u00e9a\u00e9", hits(0, 3, 3, 6)}, row{"\u20ac", "\u20ac\u20ada\u20ac", hits(0, 3, 7, 10)}, row{"\U0001f600", "\U0001f601\U0001f600", hits(4, 8)}, row{"b\u00e9\u20ac\U0001f600", "ab\u00e9\u20ac\U0001f600a", hits(1, 11)},
	)
}

// TestOneBeginning: patterns whose matches begin with a text, and aren't just that.
func TestOneBeginning(t *testing.T) {
	rows(t,
		row{"ab*", "", nil}, row{"ab*", "bbb", nil}, row{"ab*", "abba", hits(0, 3, 3, 4)}, row{"ab+c?", "aabbcab", hits(1, 5, 5, 7)}, row{"ab+c?", "acb", nil}, row{"ab(c|d)", "ababcabd", hits(2, 5, 5, 8)}, row{"ab(c|d)", "ababab", nil}, row{"ab(c|d)", "abdxab", hits(0, 3)}, row{"abc|abd|ab", "abdab", hits(0, 3, 3, 5)},
		// What begins may stand there again and again, ahead of a match and within.
		row{"aab", "aaaab", hits(2, 5)}, row{"a+b", "aaaab", hits(0, 5)}, row{"aa+", "baaab", hits(1, 4)}, row{"a.*b", "aabab", hits(0, 5)}, row{"a.a", "aaaaaa", hits(0, 3, 3, 6)}, row{"ab|a", "aab", hits(0, 1, 1, 3)}, row{"a|a*b", "aaac", hits(0, 1, 1, 2, 2, 3)}, row{"aa$", "aaa", hits(1, 3)}, row{"ab$", "abab", hits(2, 4)}, row{"a(^b|c$|d)", "abac", hits(2, 4)}, row{"a(b|ba)", "aba", hits(0, 3)},
		// It ends within a code point.
		row{"\u00e9|\u00e8", "a\u00e8\u00ea\u00e9", hits(1, 3, 5, 7)}, row{"\u00e9|\u00e8", "\u00ea", nil}, row{"\u00e9|\u00e8", "\xc3", nil}, row{"\u00e9|\u00e8", "\xc3a\xc3\xa9\xa9", hits(2, 4)}, row{"a(\u20ac|\u20ad)", "a\u20aea\u20ad", hits(4, 8)}, row{"a(\u20ac|\u20ad)", "a\xe2\x82a\xe2\x82\xac", hits(3, 7)}, row{"\U0001f600|\U0001f601", "\xf0\x9f\x98\xf0\x9f\x98\x81", hits(3, 7)},
	)
}

// TestWrong: octets that are no code points' stand for it, and may match where its
// octets don't stand.
func TestWrong(t *testing.T) {
	rows(t,
		row{"\ufffd", "\xff", hits(0, 1)}, row{"\ufffd", "\ufffd", hits(0, 3)}, row{"\ufffd", "\xff\ufffd\xff", hits(0, 1, 1, 4, 4, 5)}, row{"\ufffd", "ab", nil}, row{"\ufffd", "a\xe2\x82b", hits(1, 2, 2, 3)}, row{"\ufffd", "\u20ac\u00e9\uffff", nil}, row{"\ufffd", "\xef\xbf", hits(0, 1, 1, 2)}, row{"\ufffd{2}", "\xff\ufffd\xfe", hits(0, 4)},
		row{"a\ufffd", "a\xff", hits(0, 2)}, row{"a\ufffd", "a\ufffda\xffab", hits(0, 4, 4, 6)}, row{"a\ufffd", "b\xff", nil}, row{"\ufffda", "\xffa\ufffda", hits(0, 2, 2, 6)}, row{"\ufffda", "\xffb", nil}, row{"a\ufffdb", "aa\xffbb", hits(1, 4)}, row{"a\ufffdb", "a\xe2\x82b", nil}, row{"ab\ufffd", "abab\xff", hits(2, 5)}, row{"ab\ufffd", "ba\xff", nil},
		row{"\ufffd|\ufffe", "\xff\ufffe\ufffd\uffff", hits(0, 1, 1, 4, 4, 7)}, row{"\ufffd|\ufffe", "\ufffc", nil}, row{"\ufffd|\uf000", "\xc3", hits(0, 1)}, row{"a(\ufffd|\ufffe)", "a\xffa\ufffea", hits(0, 2, 2, 6)}, row{"a(\ufffd|\uf000)b", "a\xffb", hits(0, 3)}, row{"\ufffd+", "a\xff\ufffd\xfeb", hits(1, 6)}, row{"\ufffd.", "\xff\u00e9", hits(0, 3)}, row{"a\ufffd*b", "ab\xffa\xff\ufffdb", hits(0, 2, 3, 9)},
		row{"\ufffe", "\ufffe\ufffd\xff", hits(0, 3)}, row{"\uf000\uffff", "\xff\uf000\uffff\xff", hits(1, 7)}, row{"\uffff|\ufffe", "\xff\uffff\xef\xbf", hits(1, 4)},
		// Beside matches of other patterns.
		row{"ab", "\xffab\xe2\x82", hits(1, 3)}, row{"ab", "\xc3ab\xa9", hits(1, 3)}, row{"[^\ufffd]", "\xffa\xe2\x82", hits(1, 2)}, row{"[^\ufffd]+", "ab\xffc\xe2\x82", hits(0, 2, 3, 4)}, row{".", "\xff\xfe", hits(0, 1, 1, 2)}, row{"a.b", "a\xffb", hits(0, 3)}, row{"a.b", "a\xe2\x82b", nil}, row{"^a", "\xffa", nil}, row{"a$", "a\xff", nil}, row{"a*", "\xffa\xff", hits(0, 0, 1, 2, 3, 3)},
		// A text within a code point, or among octets that are none's.
		row{"\u00e9", "\xf0\x9f\xc3\xa9\xa9", hits(2, 4)}, row{"\u00e9", "\xc3\xc3\xa9\xa9", hits(1, 3)}, row{"\u00a9", "\xc3\xc2\xa9", hits(1, 3)}, row{"\u00a9", "\u00e9", nil}, row{"\u20ac", "\xe2\x82\xe2\x82\xac\xac", hits(2, 5)}, row{"\u00a9\u0080", "\u00e9\u00c0", nil}, row{"\u07ff", "\xf0\xdf\xbf", hits(1, 3)}, row{"\u00e9.", "\u00e9\xa9\u00e9", hits(0, 3)},
	)
}

// patterns are ones of each kind: ones that match nothing, the empty match alone,
// or all; that match just one text; that begin with one, and with none.
func patterns() []string {
	return []string{
		"", "()", "a{0}", "^", "$", "^$", "^|$", `[^\d\D]`, `a[^\d\D]`, `[^\d\D]*`, ".*", "(.|\n)*", ".",
		"a", "b", "ab", "aa", "aba", "a{3}", "(ab){2}", "ab|ab", "\u00e9", "\u00e9a", "a\u00e9", "\u00e9\u00e9", "\u20ac", "\u20aca", "\U0001f600", "\u00a9", "\u00bf", "\u0082",
		"\ufffd", "\ufffda", "a\ufffd", "a\ufffda", "\ufffd\ufffd", "\ufffe", "\u00e9\ufffd", "\ufffd|\ufffd", "\ufffd{2}", "\uffbf", "\uf03f",
		"ab*", "ab+", "a+", "a+b", "a.", "a.a", "a(b|a)", "a|ab", "ab|aa", "a$", "ab$", "a(^b|a)", "a(a|b)*b", "\u00e9|\u00e8", "\u00e9?a", "a\u00e9?", "\u00e9+", "\u00e9.", "\u20ac|\u20ad", "a\u20ac|a\u20ad", "\U0001f600|\U0001f601", "\U0001f600|\U0001f640",
		"\ufffd|\ufffe", "\ufffd|\uf000", "a(\ufffd|\ufffe)", "\ufffe|\uffff", "\ufffd+", "\ufffda*", "a\ufffd*", "a\ufffd|a\ufffe", "\ufffd$", "a[\ufffd-\uffff]", "a\ufffd.",
		"a*", "a?", "a|b", "[ab]", "[^a]", "a*b", "(ab)*", "b|", "^a", "^a|b", `\w`, `\W`, "[^\ufffd]", "[^\ufffd]*", "\ufffd?a",
	}
}

func TestAllTexts(t *testing.T) {
	few := append(strange(), texts("ab", 5)...)
	for _, x := range []struct {
		octets string
		most   int
	}{{"a\xc3\xa9\xff", 4}, {"\xe2\x82\xaca", 4}, {"\xef\xbf\xbda", 5}, {"\xf0\x9f\x98\x80", 5}, {"\xc2\xa9\xc3", 4}} {
		few = append(few, texts(x.octets, x.most)...)
	}
	for _, pattern := range patterns() {
		finds(t, pattern, few...)
	}
}

// TestAllShortPatterns: those of all texts of an alphabet.
func TestAllShortPatterns(t *testing.T) {
	for _, x := range []struct {
		letters, octets string
		most, longest   int
	}{
		{"ab|()*", "ab", 5, 3}, {"a|()?^$", "ab", 5, 3}, {"ab{}2", "ab", 6, 5}, {"a\ufffd|()", "a\xef\xbf\xbd", 4, 4}, {"\ufffd\ufffe|.", "\xef\xbf\xbd\xbe", 4, 4}, {"a\ufffd*+", "a\xff", 5, 5}, {"\u00e9\u00e8|", "\xc3\xa9\xa8\xff", 5, 3}, {"\u20ac\u20ada|*", "\xe2\x82\xaca", 4, 4}, {"\u00a9\u00e9.", "\xc2\xa9\xc3", 4, 5},
	} {
		few, patterns := texts(x.octets, x.longest), 0
		sample.Each([]rune(x.letters), x.most, func(s []rune) {
			if _, err := parse.Parse(string(s)); err == api.OK {
				measures(t, string(s))
				finds(t, string(s), few...)
				patterns++
			}
		})
		if patterns < 60 {
			t.Errorf("%q: %d patterns alone", x.letters, patterns)
		}
	}
}

// TestLongBeginnings: of 199, 200 and more octets, which is where layer 12 cuts.
func TestLongBeginnings(t *testing.T) {
	a := strings.Repeat("a", 4000)
	for _, x := range []struct {
		pattern string
		n       int
	}{{"(a{50}){3}a{49}", 199}, {"(a{50}){4}", 200}, {a[:200], 200}, {"(a{50}){4}a", 201}, {"(a{50}){39}a{49}", 1999}} {
		e := made(t, x.pattern)
		tells(t, e, x.pattern, a[:x.n-1], nil)
		tells(t, e, x.pattern, a[:x.n], hits(0, x.n))
		tells(t, e, x.pattern, a[:x.n]+"b", hits(0, x.n))
		tells(t, e, x.pattern, "b"+a[:x.n], hits(1, x.n+1))
		tells(t, e, x.pattern, a[:x.n/2]+"b"+a[:x.n-1], nil)
		tells(t, e, x.pattern, a[:2*x.n-1], hits(0, x.n))
		tells(t, e, x.pattern, a[:2*x.n], hits(0, x.n, x.n, 2*x.n))
		tells(t, e, x.pattern, a[:x.n-1]+"\xff"+a[:x.n], hits(x.n, 2*x.n))
	}
	// Within a code point, and within Wrong.
	for _, letter := range []string{"\u00e9", "\u20ac", "\U0001f600", "\ufffd"} {
		for ahead := range 4 {
			pattern := a[:ahead] + "(" + letter + "{50}){2}"
			for _, text := range []string{letter, "\xff", letter[:len(letter)-1], letter + "\xff"} {
				for _, n := range []int{25, 49, 50, 66, 67, 99, 100, 101} {
					findsAsMatch(t, pattern, a[:ahead]+strings.Repeat(text, n), "a"+a[:ahead]+strings.Repeat(text, n)+"a", a[:ahead]+strings.Repeat(text, n)+letter[:1])
				}
			}
		}
	}
}

// TestLongTexts: against layer 11, and in no square of the text's length.
func TestLongTexts(t *testing.T) {
	text := strings.Repeat("abab\u20acabc \u00e9\u00e8\ufffd\U0001f600 aab\xffa\xe2\x82b\n", 30)
	for _, pattern := range append(patterns(), "(ab){2}", "ab(c|\u20ac)", "abc| aa", "\u20ac.*\n", "\ufffd\U0001f600", "b\n$", "abd", "(\n|\u20ac)ab", "b\ufffda", "a\ufffd\ufffdb\n") {
		findsAsMatch(t, pattern, text, "x"+text, text+"\xe2\x82")
	}
	const long = 1 << 18
	a := strings.Repeat("a", long)
	for _, x := range []struct {
		pattern, text string
		n             int
	}{
		{"a", a, long}, {"aa", a, long / 2}, {"aaa", a, long / 3}, {"(a{50}){4}", a, long / 200}, {"a{50}b", a, 0}, {"(a{50}){3}b", a + "b", 1}, {"b", a, 0}, {"ba", a, 0}, {"ab", strings.Repeat("ab", long), long}, {"(ab){50}a", strings.Repeat("ab", long), long / 51}, {"", a, long + 1}, {"a*", a, 1}, {"a*b", a, 0}, {"a|a*b", a, long}, {"ba*", a, 0}, {"ab*c|a", a, long}, {"a.*b", a, 0}, {"\ufffd", strings.Repeat("\xff", long), long}, {"\u00e9", strings.Repeat("\u00e9", long), long}, {"\u00e9|\u00e8", strings.Repeat("\xc3", long), 0},
	} {
		e := made(t, x.pattern)
		if all, n, is := e.All(x.text), e.Count(x.text), e.Is(x.text); len(all) != x.n || n != x.n || is != (x.n > 0) {
			t.Errorf("%q: %d, %d, %t; want %d", x.pattern, len(all), n, is, x.n)
		}
	}
}
