package lit_test

import (
	"math"
	"slices"
	"strings"
	"testing"
	"unicode/utf8"

	"reedbed/api"
	"reedbed/lit"
	"reedbed/match"
	"reedbed/parse"
	"reedbed/prog"
	"reedbed/sample"
)

// P12.1

func TestExamples(t *testing.T) {
	startAs(t, start{"ab(c|d)", "ab", false}, start{"ab{2}", "abb", true})
}

// TestAlone: trees of each Op, as Parse answers them.
func TestAlone(t *testing.T) {
	startAs(t,
		start{"", "", true}, start{"()", "", true}, start{"^", "", false}, start{"$", "", false}, start{"a", "a", true}, start{"(((a)))", "a", true}, start{"ab", "ab", true}, start{"a|a", "a", true}, start{"a{2}", "aa", true},
		start{".", "", false}, start{`\d`, "", false}, start{`\W`, "", false}, start{"[ab]", "", false}, start{"[ac]", "", false}, start{"[a-c]", "", false}, start{"[^a]", "", false}, start{`[^\d\D]`, "", false}, start{"[a]", "a", true}, start{"[aa]", "a", true}, start{"[a-a]", "a", true},
		start{`\n`, "\n", true}, start{`[\t]`, "\t", true}, start{`\\`, `\`, true}, start{`\.`, ".", true}, start{`[\]]`, "]", true}, start{"-", "-", true}, start{"\x00", "\x00", true}, start{"\u00e9", "\xc3\xa9", true}, start{"[\u20ac]", "\xe2\x82\xac", true}, start{"\U0001f600", "\xf0\x9f\x98\x80", true}, start{"\ufffd", "\xef\xbf\xbd", true},
	)
}

// TestAllNumbers: a set of each number alone.
func TestAllNumbers(t *testing.T) {
	for r := -2; r <= last+2; r++ {
		want, is := "", isPoint(r)
		if is {
			want = string(rune(r))
		}
		if s, whole := lit.Prefix(one(r)); s != want || whole != is {
			t.Fatalf("%x: %q, %t; want %q", r, s, whole, want)
		}
	}
	for _, r := range sample.Strays() {
		begins(t, one(r), "", false)
		begins(t, cat(a, one(r), b), "a", false)
	}
}

func TestSetsOfOtherSizes(t *testing.T) {
	for _, n := range []api.Node{
		never, {Op: api.OpChar, Set: []api.Range{}}, char('a', 'b'), char('a', 'a', 'c', 'c'), char('a', 'a', last, last), char(0, 0, last, last), char(0, 1), char(0, last), char(last-1, last), char(0, 9, 11, last),
		char(0xd800, 0xdfff), char(0xd800, 0xd800, 0xdfff, 0xdfff), char(0xd7ff, 0xd800), char(0xdfff, 0xe000), char('a', 'a', 0xd800, 0xd800), char(0xe8, 0xe9),
	} {
		begins(t, n, "", false)
		begins(t, cat(a, n), "a", false)
		begins(t, cat(n, a), "", false)
		begins(t, alt(n, n), "", false)
		begins(t, alt(a, n), "", false)
		begins(t, rep(2, 2, n), "", false)
		begins(t, rep(0, 0, n), "", false)
	}
}

func TestCats(t *testing.T) {
	startAs(t,
		// All are whole.
		start{"abc", "abc", true}, start{"a(bc)d", "abcd", true}, start{"(ab)(cd)", "abcd", true}, start{"a(b(c(d)))e", "abcde", true}, start{"()()", "", true}, start{"a()b", "ab", true}, start{"()a", "a", true}, start{"a()", "a", true}, start{"a(b|b)c", "abc", true}, start{"ab{3}c", "abbbc", true}, start{"ab{0}c", "ac", true}, start{"\u00e9a\u20ac", "\u00e9a\u20ac", true}, start{"[a][b]", "ab", true},
		// Up to the first one that isn't, with what that begins with.
		start{".ab", "", false}, start{"a.b", "a", false}, start{"ab.", "ab", false}, start{"a[bc]d", "a", false}, start{"a.b.c", "a", false}, start{"^ab", "", false}, start{"a^b", "a", false}, start{"ab^", "ab", false}, start{"$ab", "", false}, start{"ab$", "ab", false}, start{"^a$", "", false},
		start{"a(bc.)d", "abc", false}, start{"a(bc|bd)e", "ab", false}, start{"a(b|bc)d", "ab", false}, start{"a(b|c)d", "a", false}, start{"a(b|)c", "a", false}, start{"ab*c", "a", false}, start{"ab+c", "ab", false}, start{"ab?c", "a", false}, start{"a(bc){2,}d", "abcbc", false}, start{"a(bc){2,3}d", "abcbc", false}, start{"a(bc.){2}d", "abc", false}, start{"a(b.){0}c", "a", false}, start{"a(b(c(d.)e)f)g", "abcd", false}, start{"(ab.)(cd)", "ab", false}, start{"(ab)(cd.)(ef)", "abcd", false}, start{"a()*b", "a", false}, start{"a(|)b", "ab", true}, start{`a[^\d\D]b`, "a", false},
	)
}

func TestAlternatives(t *testing.T) {
	startAs(t,
		// Alike.
		start{"a|a", "a", true}, start{"ab|ab|ab", "ab", true}, start{"|", "", true}, start{"||", "", true}, start{"()|", "", true}, start{"a|[a]|(a)", "a", true}, start{"aa|a{2}", "aa", true}, start{"(ab|ab)c", "abc", true}, start{"(a|a)|(a|a)", "a", true}, start{"\u00e9|\u00e9", "\u00e9", true}, start{"a{0}|", "", true},
		// Alike, but not whole.
		start{"ab+|ab+", "ab", false}, start{"ab|ab+", "ab", false}, start{"ab+|ab", "ab", false}, start{"ab|ab|ab.", "ab", false}, start{"a.|a.", "a", false}, start{"^|^", "", false}, start{"|^", "", false}, start{"|a*", "", false}, start{"a*|", "", false}, start{".|.", "", false},
		// One is the beginning of another.
		start{"a|ab", "a", false}, start{"ab|a", "a", false}, start{"abc|a|ab", "a", false}, start{"abc|abcd|abcde", "abc", false}, start{"abcde|abcd|abc", "abc", false}, start{"ab|a.", "a", false}, start{"abc|ab.", "ab", false}, start{"ab.|abc", "ab", false}, start{"a+|aa", "a", false},
		// With an empty one.
		start{"a|", "", false}, start{"|a", "", false}, start{"a||a", "", false}, start{"ab|ab|", "", false}, start{"()|a", "", false},
		// They part.
		start{"a|b", "", false}, start{"abc|abd", "ab", false}, start{"abc|xbc", "", false}, start{"abc|axc", "a", false}, start{"ab|ac|ad", "a", false}, start{"abc|abd|ax", "a", false}, start{"ax|abc|abd", "a", false}, start{"aab|aac|aad|b", "", false}, start{"a(b|c)|a(b|d)", "a", false}, start{"a|[ab]", "", false}, start{"a|^", "", false}, start{"(abc|abd)x", "ab", false}, start{"(abc|abd)(e|f)", "ab", false}, start{"ab(c|d)|abe", "ab", false},
	)
}

// TestPartsOfCodePoints: alternatives that part within the octets of one.
func TestPartsOfCodePoints(t *testing.T) {
	startAs(t,
		start{"\u00e9|\u00e8", "\xc3", false}, start{"\u0080|\u00bf", "\xc2", false}, start{"\u00bf|\u00c0", "", false}, start{"\u20ac|\u20ad", "\xe2\x82", false}, start{"\u20ac|\u2000", "\xe2", false}, start{"\u20ac|\u3000", "", false}, start{"\U0001f600|\U0001f601", "\xf0\x9f\x98", false}, start{"\U0001f600|\U0001f040", "\xf0\x9f", false}, start{"\U0001f600|\U00020000", "\xf0", false}, start{"\U0001f600|\U00040000", "", false},
		start{"a\u00e9|a\u00e8", "a\xc3", false}, start{"\u00e9a|\u00e9b", "\xc3\xa9", false}, start{"(\u00e9|\u00e8)x", "\xc3", false}, start{"x(\u00e9|\u00e8){3}", "x\xc3", false}, start{"\u20ac\u20ac|\u20ac\u20ad", "\xe2\x82\xac\xe2\x82", false}, start{"\u00e9|\u00e8|a", "", false}, start{"\u20ac|\u20ad|\u2000", "\xe2", false}, start{"\U0001f600|\U0001f601|\U0001f040", "\xf0\x9f", false}, start{"(\u00e9|\u00e8)|(\u00e8|\u00ea)", "\xc3", false}, start{"(\u00e9|\u00e8)|(\u20ac|\u20ad)", "", false}, start{"(\u00e9|\u00e8)?|\u00e9", "", false}, start{"\u00e9|\u00e8\u00e9", "\xc3", false},
		start{"[\u00e8\u00e9]", "", false},
	)
	for r := 1; r <= last; r += 97 {
		s, before := string(rune(r)), string(rune(r-1))
		if !utf8.ValidString(s) || !utf8.ValidString(before) || s == "\ufffd" || before == "\ufffd" {
			continue
		}
		n := 0
		for n < min(len(s), len(before)) && s[n] == before[n] {
			n++
		}
		begins(t, alt(one(r), one(r-1)), s[:n], false)
	}
}

// TestManyAlternatives: each counts, the last one too.
func TestManyAlternatives(t *testing.T) {
	for _, many := range []int{2, 3, 40, 1000} {
		alike := slices.Repeat([]api.Node{parsed(t, "abc")}, many)
		begins(t, alt(alike...), "abc", true)
		for _, at := range []int{0, 1, many / 2, many - 1} {
			for other, want := range map[string]string{"abcd": "abc", "abd": "ab", "ab": "ab", "a": "a", "": "", "x": "", "abc.": "abc", "ab[c-d]": "ab", ".": "", "\u00e9": ""} {
				kids := slices.Clone(alike)
				kids[at] = parsed(t, other)
				begins(t, alt(kids...), want, false)
				begins(t, cat(one('x'), alt(kids...), one('y')), "x"+want, false)
			}
		}
	}
}

func TestCounts(t *testing.T) {
	forms := []struct {
		counts      string
		least, most int
	}{
		{"{0}", 0, 0}, {"{0,0}", 0, 0}, {"?", 0, 1}, {"{0,1}", 0, 1}, {"{0,2}", 0, 2}, {"*", 0, -1}, {"{0,}", 0, -1}, {"{1}", 1, 1}, {"{1,1}", 1, 1}, {"{1,2}", 1, 2}, {"+", 1, -1}, {"{1,}", 1, -1}, {"{2}", 2, 2}, {"{2,2}", 2, 2}, {"{2,3}", 2, 3}, {"{2,}", 2, -1}, {"{9}", 9, 9}, {"{9,10}", 9, 10}, {"{9,}", 9, -1}, {"{50}", 50, 50}, {"{49,50}", 49, 50}, {"{50,}", 50, -1},
	}
	for _, x := range forms {
		few := min(x.least, 1)
		exact := x.most == x.least
		for _, s := range []string{"", "a", "ab", "\u00e9", "abc"} {
			startAs(t,
				// A kid that is whole, the empty one among them.
				start{"(" + s + ")" + x.counts, strings.Repeat(s, x.least), exact},
				start{"x(" + s + ")" + x.counts + "y", "x" + strings.Repeat(s, x.least) + map[bool]string{true: "y"}[exact], exact},
				// One that isn't.
				start{"(" + s + ".)" + x.counts, strings.Repeat(s, few), false},
				start{"x(" + s + "[bc])" + x.counts + "y", "x" + strings.Repeat(s, few), false},
				start{"(" + s + "e*)" + x.counts, strings.Repeat(s, few), false},
				start{"(" + s + "^)" + x.counts, strings.Repeat(s, few), false},
				start{"(" + s + "c|" + s + "d)" + x.counts, strings.Repeat(s, few), false},
				start{"(" + s + `[^\d\D])` + x.counts, strings.Repeat(s, few), false},
				start{"(.)" + x.counts + s, "", false},
			)
		}
	}
}

// TestTheLongest: texts of 199, 200 and 201 octets, in all ways.
func TestTheLongest(t *testing.T) {
	long := strings.Repeat("a", 200)
	row := func(n int) api.Node { return cat(slices.Repeat([]api.Node{a}, n)...) }
	for _, n := range []api.Node{row(199), cat(row(100), row(99)), cat(row(198), empty(), a, empty()), rep(199, 199, a), rep(1, 1, row(199)), parsed(t, "(a{50}){3}a{49}"), parsed(t, strings.Repeat("a", 199)), alt(row(199), row(199)), cat(rep(3, 3, row(50)), rep(7, 7, row(7))), parsed(t, "((a{9}a{2}){6}){3}a")} {
		begins(t, n, long[1:], true)
		begins(t, cat(n, empty()), long[1:], true)
		begins(t, cat(n, a), long, true)
		begins(t, cat(n, a, end()), long, false)
		begins(t, cat(n, a, a), long, false)
		begins(t, cat(n, b), long[1:]+"b", true)
		begins(t, cat(n, one(0xe9)), long[1:]+"\xc3", false)
		begins(t, cat(n, one(0x1f600)), long[1:]+"\xf0", false)
		begins(t, cat(n, never), long[1:], false)
		begins(t, rep(0, 0, n), "", true)
		begins(t, rep(2, 2, n), long, false)
	}
	for _, n := range []api.Node{row(200), cat(row(100), row(100)), cat(row(199), empty(), a, empty()), rep(200, 200, a), rep(1, 1, row(200)), parsed(t, "(a{50}){4}"), parsed(t, long), alt(row(200), row(200)), cat(rep(3, 3, row(50)), rep(5, 5, row(10))), rep(4, 4, rep(5, 5, row(10))), rep(40, 40, cat(row(4), a)), parsed(t, "((a{5}a{5}){5}){4}")} {
		begins(t, n, long, true)
		begins(t, cat(n, empty(), empty()), long, true)
		begins(t, cat(empty(), n), long, true)
		begins(t, cat(n, rep(0, 0, a)), long, true)
		begins(t, cat(n, end()), long, false)
		begins(t, cat(n, a), long, false)
		begins(t, cat(b, n), "b"+long[1:], false)
		begins(t, rep(1, 1, n), long, true)
		begins(t, rep(1, 2, n), long, false)
		begins(t, rep(0, 0, n), "", true)
		begins(t, rep(2, 2, n), long, false)
		begins(t, alt(n, cat(row(199), b)), long[1:], false)
		begins(t, alt(n, cat(n, a)), long, false)
	}
	for _, n := range []api.Node{row(201), cat(row(100), row(101)), cat(a, row(200)), cat(row(200), a, never), cat(row(199), row(9)), cat(row(150), rep(51, 51, a)), rep(201, 201, a), rep(3, 3, row(67)), rep(1, 1, row(201)), rep(67, 67, row(3)), parsed(t, "(a{50}){4}a"), parsed(t, "a(a{50}){4}"), alt(row(201), row(201)), alt(row(201), row(300)), alt(row(200), row(201)), alt(row(201), row(200)), cat(rep(3, 3, row(50)), rep(3, 3, row(17))), rep(3, 3, rep(67, 67, a)), parsed(t, "(a{50}a{17}){3}"), rep(300, -1, a), rep(201, 202, a), cat(row(100), rep(101, 101, a), b)} {
		begins(t, n, long, false)
		begins(t, cat(n, b), long, false)
		begins(t, cat(b, n), "b"+long[1:], false)
		begins(t, rep(1, 1, n), long, false)
		begins(t, rep(2, 2, n), long, false)
		begins(t, alt(n, n), long, false)
		begins(t, alt(n, row(199)), long[1:], false)
		// It isn't whole, so its counts aren't.
		begins(t, rep(0, 0, n), "", false)
		begins(t, rep(0, 1, n), "", false)
		begins(t, cat(b, rep(0, 0, n), b), "b", false)
	}
	// None of them looks further than its own text.
	begins(t, alt(cat(row(200), b), cat(row(200), a)), long, false)
	begins(t, alt(cat(row(199), b), cat(row(199), a)), long[1:], false)
	begins(t, cat(row(200), alt(a, b)), long, false)
	begins(t, cat(row(199), alt(cat(a, a), cat(a, b))), long, false)
}

// TestCutWithinCodePoints: the cut goes by octets.
func TestCutWithinCodePoints(t *testing.T) {
	startAs(t,
		start{"(\u00e9{50}){2}", strings.Repeat("\u00e9", 100), true},
		start{"a(\u00e9{50}){2}", "a" + strings.Repeat("\u00e9", 99) + "\xc3", false},
		start{"a(\u00e9{50}\u00e9{49})", "a" + strings.Repeat("\u00e9", 99), true},
		start{"(\u00e9{50}){2}\u00e9", strings.Repeat("\u00e9", 100), false},
		start{"\u20ac{50}\u20ac{16}", strings.Repeat("\u20ac", 66), true},
		start{"\u20ac{50}\u20ac{17}", strings.Repeat("\u20ac", 66) + "\xe2\x82", false},
		start{"a\u20ac{50}\u20ac{17}", "a" + strings.Repeat("\u20ac", 66) + "\xe2", false},
		start{"aa\u20ac{50}\u20ac{17}", "aa" + strings.Repeat("\u20ac", 66), false},
		start{"(\u20ac{25}){3}", strings.Repeat("\u20ac", 66) + "\xe2\x82", false},
		start{"\U0001f600{50}", strings.Repeat("\U0001f600", 50), true},
		start{"a\U0001f600{50}", "a" + strings.Repeat("\U0001f600", 49) + "\xf0\x9f\x98", false},
		start{"aa\U0001f600{50}", "aa" + strings.Repeat("\U0001f600", 49) + "\xf0\x9f", false},
		start{"aaa\U0001f600{50}", "aaa" + strings.Repeat("\U0001f600", 49) + "\xf0", false},
		start{"aaaa\U0001f600{50}", "aaaa" + strings.Repeat("\U0001f600", 49), false},
		start{"(a\U0001f600{10}){5}", strings.Repeat("a"+strings.Repeat("\U0001f600", 10), 4) + "a" + strings.Repeat("\U0001f600", 8) + "\xf0\x9f\x98", false},
		start{"a{50}\u20ac{50}(\u00e9|\u00e8)", strings.Repeat("a", 50) + strings.Repeat("\u20ac", 50), false},
		start{"a{49}\u20ac{50}(\u00e9|\u00e8)", strings.Repeat("a", 49) + strings.Repeat("\u20ac", 50) + "\xc3", false},
		start{strings.Repeat("\u20ac", 66), strings.Repeat("\u20ac", 66), true},
	)
}

// TestCountsOfCounts: a text that no memory has room for.
func TestCountsOfCounts(t *testing.T) {
	long := strings.Repeat("a", 200)
	startAs(t,
		start{tower("a", times(10, "{50}")...), long, false},
		start{tower("a{50}", times(10, "{50}")...), long, false},
		start{tower("a{50}", times(10, "{50,}")...), long, false},
		start{tower("a{50}", times(10, "{49,50}")...), long, false},
		start{tower("ab", times(10, "{2,3}")...), "abab", false},
		start{tower("ab", times(10, "{50}")...), strings.Repeat("ab", 100), false},
		start{tower("abc", times(10, "{50}")...), strings.Repeat("abc", 66) + "ab", false},
		start{tower("a", times(10, "{2}")...), long, false},
		start{tower("a", times(7, "{2}")...), long[:128], true},
		start{tower("a", times(8, "{2}")...), long, false},
		start{tower("a", times(10, "{1}")...), "a", true},
		start{tower("ab", times(10, "+")...), "ab", false},
		start{tower("ab", times(10, "?")...), "", false},
		start{tower("ab", times(10, "*")...), "", false},
		start{tower("ab.", times(10, "{50}")...), "ab", false},
		start{tower("a|b", times(10, "{50}")...), "", false},
		start{tower("ab|ac", times(10, "{50}")...), "a", false},
		start{tower("", times(10, "{50}")...), "", true},
		start{tower("", times(10, "{50,}")...), "", false},
		start{tower("a{0}", times(10, "{50}")...), "", true},
		start{"a" + tower("()(|){0}()", times(9, "{50}")...) + "b", "ab", true},
		start{tower("a", append(times(9, "{50}"), "{0}")...), "", false},
		start{tower("a", "{50}", "{4}", "{0}", "{50}"), "", true},
		start{"b" + tower("a", times(10, "{50}")...) + "c", "b" + long[1:], false},
		start{tower("a", times(10, "{50}")...) + "|" + tower("a", times(9, "{50}")...), long, false},
		start{tower("a", times(10, "{50}")...) + "|aab", "aa", false},
		start{tower("ab", times(10, "{50}")...) + tower("cd", times(10, "{50}")...), strings.Repeat("ab", 100), false},
	)
	n, m := a, empty()
	for range 1000 {
		n, m = rep(50, 50, n), rep(50, 50, m)
	}
	begins(t, n, long, false)
	begins(t, alt(n, n), long, false)
	begins(t, cat(b, m, n), "b"+long[1:], false)
	begins(t, m, "", true)
	begins(t, cat(a, m, b), "ab", true)
}

func TestDeepTrees(t *testing.T) {
	const deep = 60000
	n, m, o, p := a, empty(), a, b
	for range deep {
		n, m, o, p = rep(1, 1, n), cat(m, empty()), cat(a, o), alt(p, b)
	}
	begins(t, n, "a", true)
	begins(t, m, "", true)
	begins(t, o, strings.Repeat("a", 200), false)
	begins(t, p, "b", true)
	for range deep {
		n, p = rep(0, 1, n), alt(a, p)
	}
	begins(t, n, "", false)
	begins(t, p, "", false)
}

func TestWideTrees(t *testing.T) {
	const wide = 100000
	none, many := slices.Repeat([]api.Node{empty()}, wide), slices.Repeat([]api.Node{a}, wide)
	begins(t, cat(none...), "", true)
	begins(t, cat(append(none[:wide:wide], a)...), "a", true)
	begins(t, alt(none...), "", true)
	begins(t, alt(append(none[:wide:wide], a)...), "", false)
	begins(t, alt(many...), "a", true)
	begins(t, alt(append(many[:wide:wide], b)...), "", false)
	if s, whole := lit.Prefix(cat(many...)); s != strings.Repeat("a", 200) || whole {
		t.Errorf("%q, %t", s, whole)
	}
}

// TestMatches: each match begins with what its pattern begins with.
func TestMatches(t *testing.T) {
	words := append(texts("ab", 5), "abab\u20acab", "\u00e9\u00e8\u00e9", "ab\nabc", "\ufffda", "abcabcabc", "a\U0001f600\U0001f601b", "0a1ab2")
	for _, pattern := range []string{
		"", "a", "ab", "a.", ".a", "a|b", "ab|a", "a|ab", "a*", "a+", "a?", "(ab)*", "(ab)+", "(ab){2}", "(ab){2,3}", "a{0}", "(a.){0}b", "^a", "a$", "^|a", "a(b|c)", "a(b|ba)", "abc|abd|ab", "(a|a)b", "[ab]", "[a]b", "[^a]", `[^\d\D]`, `a|[^\d\D]`, `a[^\d\D]?`, `\d\w`, "\u00e9|\u00e8", "(\u00e9|\u00e8)+", "\u00e9\u00e8", "[\u00e9\u00e8]", "\ufffd", "\ufffd.", "\u20ac", "\u20ac(a|b)", "\U0001f600|\U0001f601", "a(\U0001f600|\U0001f601)", "ab\nab", "(ab|ab){2}", "((a|b)b){0,2}", "()*a", "(|)a", "(^)*a", "a(^|b)",
	} {
		holds(t, parsed(t, pattern), words...)
	}
}

// TestHits: layer 11's answers, in texts of some length, whose octets are all code
// points'.
func TestHits(t *testing.T) {
	text := strings.Repeat("abab\u20acabc \u00e9\u00e8\ufffd\U0001f600 aab\n", 40)
	for pattern, some := range map[string]bool{
		"ab": true, "(ab){2}": true, "ab(c|\u20ac)": true, "aab?": true, "b{1,3}": true, "abc| aa": true, "\u20ac.*\n": true, "(\u00e9|\u00e8)+": true, "\ufffd\U0001f600": true, "[\ufffd].": true, "^abab": true, "b\n$": true, "abd": false, "\u20ad": false, "": true, "(\n|\u20ac)ab": true,
	} {
		n := parsed(t, pattern)
		p, _ := prog.Compile(n)
		s, whole := lit.Prefix(n)
		hits := match.All(p, text)
		if (len(hits) > 0) != some {
			t.Errorf("%q: %d hits", pattern, len(hits))
		}
		for _, hit := range hits {
			if found := text[hit.From:hit.To]; !strings.HasPrefix(found, s) || whole && found != s {
				t.Errorf("%q: %q, %t, but %v: %q", pattern, s, whole, hit, found)
			}
		}
		if whole && lit.Count(text, s) < len(hits) || s != "" && some && lit.Index(text, s, 0) > hits[0].From {
			t.Errorf("%q: %d places, the first at %d; %v", pattern, lit.Count(text, s), lit.Index(text, s, 0), hits)
		}
	}
}

// TestTreesInOneAnother: each Op within each within each.
func TestTreesInOneAnother(t *testing.T) {
	leaves := []api.Node{empty(), a, b, char('a', 'b'), never, begin(), end()}
	for _, n := range grown(leaves) {
		holds(t, n, texts("ab", 5)...)
	}
	for _, n := range grown(grown(leaves)) {
		holds(t, n, texts("ab", 2)...)
	}
	leaves = []api.Node{a, one(0xe8), one(0xe9), one(0x20ac), rep(2, 2, one(0xe9)), char(0xe8, 0xe9)}
	for _, n := range grown(grown(leaves)) {
		holds(t, n, "\u00e9", "\u00e8\u00e9", "a\u00e9\u00e9", "\u20ac\u00e8")
	}
}

// TestAllShortPatterns: those of all texts of an alphabet.
func TestAllShortPatterns(t *testing.T) {
	for _, x := range []struct {
		letters string
		most    int
	}{
		{"ab|()*", 6}, {"a|()?^$", 5}, {"a{}02,", 6}, {"ab|+", 6}, {"ab[]^-", 5}, {"a\u00e8\u00e9|()", 5}, {"ab(){}2", 6}, {"a.|{}12", 5},
	} {
		over, patterns := append(texts("ab", 3), "a\u00e9\u00e8", "\u00e8\u00e9", "\u00e9a"), 0
		sample.Each([]rune(x.letters), x.most, func(s []rune) {
			if n, err := parse.Parse(string(s)); err == api.OK {
				holds(t, n, over...)
				patterns++
			}
		})
		if patterns < 100 {
			t.Errorf("%q: %d patterns alone", x.letters, patterns)
		}
	}
}

// TestTreesThatAreNone: of those that Parse never answers nothing is promised, but
// that the call ends, and what it answers is no longer than it may be.
func TestTreesThatAreNone(t *testing.T) {
	numbers := []int{math.MinInt, math.MinInt + 1, -1 << 40, -2, -1, 0, 1, 2, 3, 200, 201, 1 << 32, 1 << 40, math.MaxInt - 1, math.MaxInt}
	kids := [][]api.Node{nil, {}, {a}, {empty()}, {a, b}, {a, empty(), end()}, {empty(), rep(201, 201, a)}, {{Op: 9}}, {{Op: -1, Kids: []api.Node{a}}}, {rep(0, -1)}, {rep(5, 5, empty(), empty())}, {alt()}, {cat(), alt(a)}}
	sample.EachOdd(numbers, kids, func(n api.Node) {
		if s, _ := lit.Prefix(n); len(s) > 200 {
			t.Errorf("%s: %d octets", parse.Show(n), len(s))
		}
	})
	for _, s := range [][]api.Range{sample.Ranges(9, 1), sample.Ranges(math.MinInt, math.MaxInt), sample.Ranges('a', 'a', 'a', 'a'), sample.Ranges(last+1, last+1), sample.Ranges('c', 'c', 'a', 'b'), sample.Ranges(-5, 0)} {
		n := api.Node{Op: api.OpChar, Set: s, Min: 3, Max: -7, Kids: []api.Node{a}}
		if s, _ := lit.Prefix(n); len(s) > 4 {
			t.Errorf("%v: %q", n, s)
		}
	}
}
