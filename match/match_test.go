package match_test

import (
	"math"
	"slices"
	"strings"
	"testing"

	"reedbed/api"
	"reedbed/match"
	"reedbed/parse"
	"reedbed/prog"
	"reedbed/sample"
)

// The texts, and what is found in them.
var texts, strange, hits = sample.Texts, sample.Strange, sample.Hits

// compiled is a pattern's program.
func compiled(t *testing.T, pattern string) []api.Inst {
	t.Helper()
	n, err := parse.Parse(pattern)
	if err != api.OK {
		t.Fatalf("%q: %v", pattern, err)
	}
	p, err := prog.Compile(n)
	if err != api.OK {
		t.Fatalf("%q: %v", pattern, err)
	}
	return p
}

// char, split, begin, end and over make programs by hand.

func char(x int, ends ...int) api.Inst {
	return api.Inst{Op: api.InChar, X: x, Set: sample.Ranges(ends...)}
}
func split(x, y int) api.Inst { return api.Inst{Op: api.InSplit, X: x, Y: y} }
func begin(x int) api.Inst    { return api.Inst{Op: api.InBegin, X: x} }
func end(x int) api.Inst      { return api.Inst{Op: api.InEnd, X: x} }
func over() api.Inst          { return api.Inst{Op: api.InMatch} }

// finds asks for all calls' answers over these texts, at all numbers.
func finds(t *testing.T, p []api.Inst, texts ...string) {
	t.Helper()
	for _, text := range texts {
		want := sample.Read(p, text)
		for at := -2; at <= len(text)+2; at++ {
			if end, ok := match.Longest(p, text, at); !same(end, ok)(want.Longest(at)) {
				t.Fatalf("Longest from %d in %q: %d, %t; want %v: %v", at, text, end, ok, want, p)
			}
			if hit, ok := match.First(p, text, at); !same(hit, ok)(want.First(at)) {
				t.Fatalf("First from %d in %q: %v, %t; want %v: %v", at, text, hit, ok, want, p)
			}
		}
		if hits := match.All(p, text); !slices.Equal(hits, want.All()) {
			t.Fatalf("All in %q: %v; want %v: %v", text, hits, want.All(), p)
		}
	}
}

// same holds an answer and its ok against others.
func same[E comparable](got E, ok bool) func(E, bool) bool {
	return func(want E, wantOk bool) bool { return got == want && ok == wantOk }
}

// P11.1

func TestPlaces(t *testing.T) {
	for _, x := range []struct {
		text string
		want []int
	}{
		{"", []int{0}}, {"a", []int{0, 1}}, {"abc", []int{0, 1, 2, 3}}, {"\x00", []int{0, 1}}, {"\r\n", []int{0, 1, 2}},
		{"\u00e9", []int{0, 2}}, {"\u20ac", []int{0, 3}}, {"\U0001f600", []int{0, 4}}, {"a\u00e9\u20ac\U0001f600b", []int{0, 1, 3, 6, 10, 11}},
		{"\xff", []int{0, 1}}, {"a\xffb", []int{0, 1, 2, 3}}, {"\xc3", []int{0, 1}}, {"\xe2\x82", []int{0, 1, 2}}, {"\xf0\x9f\x98", []int{0, 1, 2, 3}}, {"\xf0\x9f\x98a", []int{0, 1, 2, 3, 4}}, {"\xc3\xc3\xa9\xa9", []int{0, 1, 3, 4}}, {"\x80\x80", []int{0, 1, 2}},
		{"\xc0\x80", []int{0, 1, 2}}, {"\xe0\x80\x80", []int{0, 1, 2, 3}}, {"\xed\xa0\x80", []int{0, 1, 2, 3}}, {"\xf4\x90\x80\x80", []int{0, 1, 2, 3, 4}}, {"\xf4\x8f\xbf\xbf", []int{0, 4}}, {"\xef\xbf\xbd", []int{0, 3}},
	} {
		if got := match.Places(x.text); !slices.Equal(got, x.want) {
			t.Errorf("Places(%q) = %v; want %v", x.text, got, x.want)
		}
	}
}

// TestAllPlaces: which numbers are places, of all short texts of the octets in
// which code points and what is none begin, go on, and end.
func TestAllPlaces(t *testing.T) {
	empty := compiled(t, "")
	for _, octets := range []string{"a\xc3\xa9\xff", "\xe2\x82\xac", "\xf0\x9f\x98\x80", "\xed\x9f\xa0\xe0", "\xc3\xe2\xf0\x90", "\xf4\x8f\x90\xbf"} {
		for _, text := range texts(octets, 6) {
			want := sample.TextPlaces(text)
			if got := match.Places(text); !slices.Equal(got, want) {
				t.Fatalf("Places(%q) = %v; want %v", text, got, want)
			}
			for at := -1; at <= len(text)+1; at++ {
				next, any := slices.BinarySearch(want, at)
				if end, ok := match.Longest(empty, text, at); ok != any || ok && end != at || !ok && end != 0 {
					t.Fatalf("Longest from %d in %q: %d, %t", at, text, end, ok)
				}
				hit, ok := match.First(empty, text, at)
				if ok != (next < len(want)) || ok && hit != (api.Hit{From: want[next], To: want[next]}) || !ok && hit != (api.Hit{}) {
					t.Fatalf("First from %d in %q: %v, %t", at, text, hit, ok)
				}
			}
		}
	}
}

func TestLongest(t *testing.T) {
	for _, x := range []struct {
		pattern, text string
		at, want      int // below 0: none
	}{
		{"", "", 0, 0}, {"", "ab", 0, 0}, {"", "ab", 1, 1}, {"", "ab", 2, 2}, {"", "ab", 3, -1}, {"", "ab", -1, -1}, {"", "\u00e9", 1, -1}, {"", "\xc3", 1, 1},
		{"a", "", 0, -1}, {"a", "ba", 0, -1}, {"a", "ba", 1, 2}, {"a", "ba", 2, -1}, {`[^\d\D]`, "ab", 0, -1}, {`[^\d\D]*`, "ab", 1, 1},
		{"a|ab|abc", "abcd", 0, 3}, {"abc|ab|a", "abcd", 0, 3}, {"abc|a", "abd", 0, 1}, {"a|abc", "abd", 0, 1}, {"a*", "aaab", 0, 3}, {"a*", "aaab", 2, 3}, {"a*", "aaab", 3, 3}, {"a?", "aaab", 0, 1}, {"(a|ab)(c|bcd)(d*)", "abcd", 0, 4}, {"a*(ab)?", "aab", 0, 3}, {"|a", "a", 0, 1}, {"a|", "a", 0, 1}, {".*", "a\nb", 0, 1}, {"(.|\n)*", "a\nb", 0, 3},
		{"^a", "aa", 0, 1}, {"^a", "aa", 1, -1}, {"a$", "aa", 0, -1}, {"a$", "aa", 1, 2}, {"^", "a", 0, 0}, {"^", "a", 1, -1}, {"$", "a", 0, -1}, {"$", "a", 1, 1}, {"^$", "", 0, 0}, {"a^", "aa", 0, -1}, {"$a", "aa", 0, -1}, {"a(^b|c$|d)", "ab", 0, -1}, {"a(^b|c$|d)", "ac", 0, 2}, {"a(^b|c$|d)", "acd", 0, -1}, {"a(^b|c$|d)", "ada", 0, 2},
		{".", "\u00e9", 0, 2}, {"..", "\u20ac\U0001f600", 0, 7}, {".", "\u20ac\U0001f600", 3, 7}, {".", "\u20ac\U0001f600", 4, -1}, {"\u20ac", "\u20ac", 0, 3}, {"[^a]*", "\u00e9\xff\U0001f600a", 0, 7},
		{"\ufffd", "\xff", 0, 1}, {"\ufffd", "\ufffd", 0, 3}, {"\ufffd*", "\xff\xef\xbf\xbd\xe2\x82", 0, 6}, {"[^\ufffd]", "\xff", 0, -1}, {"[^\ufffd]*", "ab\xffcd", 0, 2}, {"a[^\ufffd]", "a\xe2\x82\xac", 0, 4}, {"a[^\ufffd]", "a\xe2\x82", 0, -1}, {"a.{2}", "a\xe2\x82", 0, 3}, {"a.$", "a\xe2\x82", 0, -1}, {"\xc3\xa9", "\xc3", 0, -1}, {".\xc2\xa9", "\xc3\xc2\xa9", 0, 3},
	} {
		end, ok := match.Longest(compiled(t, x.pattern), x.text, x.at)
		if ok != (x.want >= 0) || end != max(x.want, 0) {
			t.Errorf("%q from %d in %q: %d, %t; want %d", x.pattern, x.at, x.text, end, ok, x.want)
		}
	}
}

func TestFirst(t *testing.T) {
	for _, x := range []struct {
		pattern, text      string
		from, begin, until int // begin below 0: none
	}{
		{"a", "", 0, -1, 0}, {"", "", 0, 0, 0}, {"", "", -5, 0, 0}, {"", "", 1, -1, 0}, {"$", "ab", 0, 2, 2}, {"$", "ab", 2, 2, 2}, {"$", "ab", 3, -1, 0}, {"^", "ab", 0, 0, 0}, {"^", "ab", -9, 0, 0}, {"^", "ab", 1, -1, 0},
		{"b", "abab", -1, 1, 2}, {"b", "abab", 0, 1, 2}, {"b", "abab", 1, 1, 2}, {"b", "abab", 2, 3, 4}, {"b", "abab", 3, 3, 4}, {"b", "abab", 4, -1, 0}, {"b", "abab", 5, -1, 0}, {"b", "aaaa", 0, -1, 0},
		// The first one begins first, wherever it ends.
		{"abcd|c", "abcd", 0, 0, 4}, {"abcd|c", "abce", 0, 2, 3}, {"abcd|bc|c", "abce", 0, 1, 3}, {"b|abc|c", "abc", 0, 0, 3}, {"b|abd|c", "abc", 0, 1, 2}, {"bc|b|abd", "abcabd", 0, 1, 3}, {"bcx|b|abd", "abcabd", 0, 1, 2}, {"a*b", "aaac aab", 0, 5, 8}, {"a*b|c", "aaac aab", 0, 3, 4}, {"a+", "baac", 0, 1, 3}, {"a+", "baac", 2, 2, 3}, {"a*", "baac", 0, 0, 0}, {"b|ab+c|a", "abbbd", 0, 0, 1}, {"ab*(cd|)|b", "abbbce", 0, 0, 4},
		{".", "\u00e9a", 0, 0, 2}, {".", "\u00e9a", 1, 2, 3}, {".", "\u00e9a", 2, 2, 3}, {".", "\u00e9a", 3, -1, 0}, {".", "\U0001f600\u20ac", 1, 4, 7}, {".", "\U0001f600\u20ac", 3, 4, 7}, {".", "\U0001f600\u20ac", 5, -1, 0}, {"", "\U0001f600\u20ac", 5, 7, 7}, {"\ufffd", "a\xffb\ufffd", 0, 1, 2}, {"\ufffd", "a\xffb\ufffd", 2, 3, 6}, {"\ufffd", "\xe2\x82\xac\x82", 1, 3, 4}, {"[^\ufffd]", "\xff\xfe\u00e9", 0, 2, 4},
	} {
		hit, ok := match.First(compiled(t, x.pattern), x.text, x.from)
		want := api.Hit{From: max(x.begin, 0), To: x.until}
		if ok != (x.begin >= 0) || hit != want {
			t.Errorf("%q from %d in %q: %v, %t; want %v", x.pattern, x.from, x.text, hit, ok, want)
		}
	}
}

// TestNoPlaces: numbers far from all places.
func TestNoPlaces(t *testing.T) {
	for _, pattern := range []string{"", "a", "a*", "^", "$", "(^|a|$)*"} {
		p := compiled(t, pattern)
		for _, text := range []string{"", "a", "aaaa", "\u20aca", "\xff"} {
			first, any := sample.Read(p, text).First(0)
			for _, at := range []int{math.MinInt, math.MinInt + 1, math.MinInt32, -1 << 32, -4, -3, -2, -1} {
				if end, ok := match.Longest(p, text, at); end != 0 || ok {
					t.Errorf("%q in %q: Longest from %d: %d, %t", pattern, text, at, end, ok)
				}
				if hit, ok := match.First(p, text, at); hit != first || ok != any {
					t.Errorf("%q in %q: First from %d: %v, %t; want %v, %t", pattern, text, at, hit, ok, first, any)
				}
			}
			for _, more := range []int{1, 2, 3, 4, 1 << 32, math.MaxInt32, math.MaxInt - 10} {
				if end, ok := match.Longest(p, text, len(text)+more); end != 0 || ok {
					t.Errorf("%q in %q: Longest from %d behind: %d, %t", pattern, text, more, end, ok)
				}
				if hit, ok := match.First(p, text, len(text)+more); hit != (api.Hit{}) || ok {
					t.Errorf("%q in %q: First from %d behind: %v, %t", pattern, text, more, hit, ok)
				}
			}
		}
	}
}

// TestNotRight: programs that would match, if they were right.
func TestNotRight(t *testing.T) {
	wrong := [][]api.Inst{nil, {}, []api.Inst{over()}[:0]}
	for _, p := range [][]api.Inst{
		{over()}, {split(1, 1), over()}, {split(0, 1), over()}, {char(1, 0, 0x10ffff), over()}, {begin(1), over()}, {split(1, 2), over(), over()}, compiled(t, "a*b|c|"),
	} {
		for i := range p {
			for _, op := range []int{math.MinInt, -1, 5, 1 << 32} {
				other := sample.CopyProgram(p)
				other[i].Op = op
				wrong = append(wrong, other)
			}
			for _, x := range []int{math.MinInt, -1, len(p), math.MaxInt} {
				other := sample.CopyProgram(p)
				other[i] = split(x, 0)
				wrong = append(wrong, other)
				other = sample.CopyProgram(p)
				other[i] = split(0, x)
				wrong = append(wrong, other, append(sample.CopyProgram(p), begin(x+1)), append(sample.CopyProgram(p), end(-1)), append(sample.CopyProgram(p), char(99, 1, 2)))
			}
		}
	}
	for _, p := range wrong {
		if prog.Right(p) {
			continue // with more instructions an X may be one's
		}
		for _, text := range []string{"", "a", "aab", "\xff"} {
			for at := -1; at <= len(text)+1; at++ {
				if end, ok := match.Longest(p, text, at); end != 0 || ok {
					t.Fatalf("Longest from %d in %q: %d, %t: %v", at, text, end, ok, p)
				}
				if hit, ok := match.First(p, text, at); hit != (api.Hit{}) || ok {
					t.Fatalf("First from %d in %q: %v, %t: %v", at, text, hit, ok, p)
				}
			}
			if hits := match.All(p, text); len(hits) != 0 {
				t.Fatalf("All in %q: %v: %v", text, hits, p)
			}
		}
	}
}

// TestOddPrograms: ones that are right, though no pattern's.
func TestOddPrograms(t *testing.T) {
	a := []int{'a', 'a'}
	for _, p := range [][]api.Inst{
		{split(0, 0)}, {split(0, 0), over()}, {split(0, 1), over()}, {split(1, 0), over()}, {split(1, 1), split(0, 0)}, {split(1, 2), split(0, 2), over()}, {begin(0), over()}, {end(0), over()}, {begin(1), begin(0)}, {begin(1), end(0)},
		{char(0, a...)}, {char(1, a...), split(0, 2), over()}, {char(1, a...), char(0, 'b', 'b')}, {split(1, 2), char(0, a...), over()}, {split(2, 1), char(0, a...), over()}, {split(1, 1), char(2, a...), over()}, {split(1, 1), split(2, 2), over()},
		{split(1, 2), over(), char(3, a...), over()}, {split(2, 1), over(), char(3, a...), over()}, {over(), over()}, {over(), char(0, a...)},
		{split(1, 3), begin(2), over(), end(4), over()}, {char(1, a...), begin(2), over()}, {char(1, a...), end(2), over()}, {end(1), char(2, a...), over()}, {begin(1), split(2, 3), char(1, a...), end(4), over()},
		// Loops that go on without a code point, by a beginning and an end too.
		{split(1, 4), split(0, 2), split(1, 3), char(0, a...), over()}, {split(1, 2), begin(0), split(3, 4), end(0), char(5, a...), split(0, 6), over()}, {split(1, 4), begin(2), begin(3), split(1, 0), char(0, a...), over()}, {split(1, 2), begin(3), end(3), split(0, 4), over()},
		// Sets that are none, but ranges all the same.
		{char(1, 'b', 'b', 'a', 'a'), over()}, {char(1, 'b', 'a'), over()}, {char(1, math.MinInt, math.MaxInt), over()}, {char(1), over()}, {char(1, 'a', 'c', 'b', 'b', -1, 'a'), split(0, 2), over()},
		// What an instruction's Op doesn't use.
		{{Op: api.InMatch, X: -1, Y: 9, Set: sample.Ranges(5, 1)}}, {{Op: api.InChar, X: 1, Y: -1, Set: sample.Ranges(a...)}, over()}, {{Op: api.InSplit, X: 1, Y: 1, Set: sample.Ranges(a...)}, over()}, {{Op: api.InBegin, X: 1, Y: 7, Set: sample.Ranges(a...)}, over()}, {{Op: api.InEnd, X: 1, Y: -7, Set: sample.Ranges(a...)}, over()}, {{Op: api.InMatch, Set: sample.Ranges(a...)}},
	} {
		if !prog.Right(p) {
			t.Fatalf("not right: %v", p)
		}
		finds(t, p, texts("ab", 4)...)
		finds(t, p, strange()...)
	}
}

// TestAllShortPrograms: of one and two instructions, and of three.
func TestAllShortPrograms(t *testing.T) {
	for n := 1; n <= 3; n++ {
		insts := []api.Inst{over()}
		for x := range n {
			insts = append(insts, char(x, 'a', 'a'), char(x, 'b', 0x10ffff), begin(x), end(x))
			for y := range n {
				insts = append(insts, split(x, y))
			}
		}
		few := []string{"", "a", "ab", "aab", "b\u00e9a", "\xffa"}
		if n < 3 {
			few = append(strange(), texts("ab", 4)...)
		}
		sample.Each(insts, n, func(p []api.Inst) {
			if len(p) == n {
				finds(t, p, few...)
			}
		})
	}
}

// TestStrangeTexts: patterns with Wrong and without it, over what is no code
// point's.
func TestStrangeTexts(t *testing.T) {
	for _, pattern := range []string{
		"", ".", ".*", "..", "\ufffd", "\ufffd*", "\ufffd+$", "^\ufffd", "[^\ufffd]", "[^\ufffd]*", "a|\ufffd", "a[^\ufffd]", "a.?", "\u00e9", "\u00e9?", "\u00e9|a\u00e9", "\u20ac", "\u20ac|\ufffd\ufffd", "[\u0080-\U0010ffff]+", "[^\u0080-\U0010ffff]*", "[\u20ac-\ufffd]*", "\U0001f600$", "^.", ".$", `\W`, `\w*`, "(\ufffd|a)*",
	} {
		p := compiled(t, pattern)
		finds(t, p, strange()...)
		finds(t, p, texts("a\xc3\xa9\xff", 5)...)
		finds(t, p, texts("\xe2\x82\xaca", 5)...)
		finds(t, p, texts("\xf0\x9f\x98\x80", 5)...)
	}
}

// TestManyOnTheWay: programs that are at many instructions at once, over texts at
// whose end alone it turns out which way was one.
func TestManyOnTheWay(t *testing.T) {
	a := strings.Repeat("a", 60)
	for _, pattern := range []string{
		"a{50}", "(a?){20}a{20}", "(a|aa)*b", "(a|aa|aaa){20}", "(a*)*b", "(a*b|a*c|a)", "((a|b)*c|a{2}|b)", "a{7}|a{11}|a{13}", "(a{7}|a{11})*", "(a{3})*|(a{5})*", "(a{3})*$|(a{5})*$", "(a|b)*a(a|b){20}", "a(a|b){0,30}b",
	} {
		p := compiled(t, pattern)
		finds(t, p, a, a[:59], a[:53], a[:31]+"b"+a[:20], a[:20]+"c", "b"+a[:12], strings.Repeat("ab", 30), strings.Repeat("aab", 20)+"c")
	}
}
