package match_test

import (
	"slices"
	"strings"
	"testing"

	"reedbed/api"
	"reedbed/match"
	"reedbed/parse"
	"reedbed/sample"
)

// P11.2

func TestAll(t *testing.T) {
	for _, x := range []struct {
		pattern, text string
		want          []api.Hit
	}{
		{"a*", "baac", hits(0, 0, 1, 3, 4, 4)}, {"a+", "baac", hits(1, 3)}, {"a", "baac", hits(1, 2, 2, 3)}, {"x", "baac", nil}, {"a", "", nil}, {`[^\d\D]`, "abc", nil}, {".*", "abc", hits(0, 3)}, {"(.|\n)*", "a\nb", hits(0, 3)}, {".*", "a\nb", hits(0, 1, 2, 3)},
		// Empty ones, at each place.
		{"", "", hits(0, 0)}, {"", "ab", hits(0, 0, 1, 1, 2, 2)}, {"a*", "", hits(0, 0)}, {"a*", "bb", hits(0, 0, 1, 1, 2, 2)}, {"", "\u00e9\xff\u20ac", hits(0, 0, 2, 2, 3, 3, 6, 6)}, {"", "\xe2\x82", hits(0, 0, 1, 1, 2, 2)},
		// Right at the end of the one ahead it isn't told; a code point further it is.
		{"a*", "a", hits(0, 1)}, {"a*", "ab", hits(0, 1, 2, 2)}, {"a*", "ba", hits(0, 0, 1, 2)}, {"a*", "aba", hits(0, 1, 2, 3)}, {"a*", "abba", hits(0, 1, 2, 2, 3, 4)}, {"a*", "aab\u20aca", hits(0, 2, 3, 3, 6, 7)}, {"a?", "aa", hits(0, 1, 1, 2)}, {"a?", "aab", hits(0, 1, 1, 2, 3, 3)}, {"b|", "abb", hits(0, 0, 1, 2, 2, 3)}, {"a|$", "aa", hits(0, 1, 1, 2)}, {"a|$", "aab", hits(0, 1, 1, 2, 3, 3)}, {"ab|", "abab", hits(0, 2, 2, 4)}, {"ab|", "abaab", hits(0, 2, 3, 5)},
		// Behind an empty one.
		{"^|b", "ab", hits(0, 0, 1, 2)}, {"^|a", "aa", hits(0, 1, 1, 2)}, {"^|b|$", "ab", hits(0, 0, 1, 2)}, {"^|$", "ab", hits(0, 0, 2, 2)}, {"^|$", "", hits(0, 0)}, {"(ab)*", "aabb", hits(0, 0, 1, 3, 4, 4)},
		{"^", "aa", hits(0, 0)}, {"$", "aa", hits(2, 2)}, {"^a", "aa", hits(0, 1)}, {"a$", "aa", hits(1, 2)}, {"^a*", "aab", hits(0, 2)}, {"^a*$", "aa", hits(0, 2)}, {"a*$", "aba", hits(2, 3)}, {"a*$", "ab", hits(2, 2)}, {"^$", "", hits(0, 0)}, {"^$", "a", nil},
		// The longest one, from the first place: and what it takes isn't looked at again.
		{"a|ab", "abab", hits(0, 2, 2, 4)}, {"aa", "aaaaa", hits(0, 2, 2, 4)}, {"aba", "ababa", hits(0, 3)}, {"ab|ba", "aba", hits(0, 2)}, {"ab|bab", "abbab", hits(0, 2, 2, 5)}, {"a|aab", "aaab", hits(0, 1, 1, 4)}, {"a|a*b", "aaac", hits(0, 1, 1, 2, 2, 3)}, {"a|a*b|c", "aaacaab", hits(0, 1, 1, 2, 2, 3, 3, 4, 4, 7)}, {"abcd|bc|d", "abcabcd", hits(1, 3, 3, 7)}, {"a{2,3}", "aaaaaaa", hits(0, 3, 3, 6)}, {"(a|b)*c", "abxabc", hits(3, 6)},
		{"\u00e9?", "\u00e9a", hits(0, 2, 3, 3)}, {".", "\u00e9\n\xff", hits(0, 2, 3, 4)}, {"\ufffd", "\xff\ufffd\xff", hits(0, 1, 1, 4, 4, 5)}, {"[^\ufffd]+", "ab\xffc\xe2\x82", hits(0, 2, 3, 4)}, {"[^\ufffd]", "\u20ac\U0001f600\xff", hits(0, 3, 3, 7)},
	} {
		if got := match.All(compiled(t, x.pattern), x.text); !slices.Equal(got, x.want) {
			t.Errorf("%q in %q: %v; want %v", x.pattern, x.text, got, x.want)
		}
	}
}

// TestShortPatterns: all of some alphabets, over all short texts.
func TestShortPatterns(t *testing.T) {
	for _, x := range []struct {
		letters string
		most    int
	}{
		{"ab|()*", 5}, {"a|()?^$", 5}, {"ab|+", 5}, {"a{}02,", 5}, {"ab^$|*", 5},
	} {
		few, patterns := texts("ab", 4), 0
		sample.Each([]byte(x.letters), x.most, func(s []byte) {
			if _, err := parse.Parse(string(s)); err == api.OK {
				finds(t, compiled(t, string(s)), few...)
				patterns++
			}
		})
		if patterns < 100 {
			t.Errorf("%q: %d patterns alone", x.letters, patterns)
		}
	}
}

// TestLongTexts: what goes on to the end and fails there, from each place, must
// not take the square of the text's length.
func TestLongTexts(t *testing.T) {
	const long = 1 << 18
	a := strings.Repeat("a", long)
	for _, x := range []struct {
		pattern, text string
		n             int
	}{
		{"a", a, long}, {"a|a*b", a, long}, {"a?|a*b", a, long}, {"(a|aa)*c|a", a, long}, {"a*b", a, 0}, {"(a*)*b", a, 0}, {"a*", a, 1}, {"", a, long + 1}, {"a*$", a, 1}, {"^a", a, 1}, {"a|.*\u20ac", strings.Repeat("\u00e9a", long), long}, {"(\ufffd|a*b)", strings.Repeat("\xff", long), long}, {"[^\ufffd]*", strings.Repeat("\xff", long), long + 1},
	} {
		if got := match.All(compiled(t, x.pattern), x.text); len(got) != x.n {
			t.Errorf("%q: %d; want %d", x.pattern, len(got), x.n)
		}
	}
	for _, x := range []struct {
		pattern string
		want    api.Hit
		ok      bool
	}{
		{"b", api.Hit{}, false}, {"a*b", api.Hit{}, false}, {"a*b|a", api.Hit{From: 0, To: 1}, true}, {"a*$", api.Hit{From: 0, To: long}, true}, {"$", api.Hit{From: long, To: long}, true}, {"a{50}$", api.Hit{From: long - 50, To: long}, true},
	} {
		if hit, ok := match.First(compiled(t, x.pattern), a, 0); hit != x.want || ok != x.ok {
			t.Errorf("%q: %v, %t; want %v", x.pattern, hit, ok, x.want)
		}
	}
	// The longest one from a place is found without a look at all the text.
	p := compiled(t, "a{3}")
	for at := range long {
		if end, ok := match.Longest(p, a, at); ok != (at <= long-3) || ok && end != at+3 {
			t.Fatalf("from %d: %d, %t", at, end, ok)
		}
		if hit, ok := match.First(p, a, at); ok != (at <= long-3) || ok && hit.From != at {
			t.Fatalf("from %d: %v, %t", at, hit, ok)
		}
	}
}

// TestGreatPrograms: far more instructions than a pattern's.
func TestGreatPrograms(t *testing.T) {
	const n = 200000
	row := make([]api.Inst, n) // splits one behind the other, and back
	for i := range row {
		row[i] = split((i+1)%n, max(i-1, 0))
	}
	for _, last := range []api.Inst{over(), char(n-2, 'b', 'b'), begin(n - 2), end(n - 2)} {
		row[n-1], row[n-2] = last, over()
		if hit, ok := match.First(row, "ab", 1); hit != (api.Hit{From: 1, To: 1}) || !ok {
			t.Errorf("%v, %t", hit, ok)
		}
		if got := match.All(row, "ab"); !slices.Equal(got, hits(0, 0, 1, 1, 2, 2)) {
			t.Errorf("%v", got)
		}
	}
	chain := make([]api.Inst, n) // as many code points
	for i := range chain {
		chain[i] = char(i+1, 'a', 'a')
	}
	chain[n-1] = over()
	text := strings.Repeat("a", n)
	if end, ok := match.Longest(chain, text, 1); end != n || !ok {
		t.Errorf("%d, %t", end, ok)
	}
	if _, ok := match.Longest(chain, text, 2); ok {
		t.Error("a match beyond the end")
	}
}

// P11.3

// rises asks whether hits are as the promise says: rising, not overlapping, each
// the longest match of its place, and none beginning between, but the empty one
// right at the end of the one ahead.
func rises(t *testing.T, p []api.Inst, text string) {
	t.Helper()
	all := match.All(p, text)
	fail := func(why string, at int) { t.Fatalf("%q: %v: %s %d: %v", text, all, why, at, p) }
	next, behind := 0, -1 // the place from which one may begin, and the end of the one ahead
	for _, hit := range append(all, api.Hit{From: len(text) + 1}) {
		for at := next; at < hit.From; at++ {
			if end, ok := match.Longest(p, text, at); ok && (end != at || at != behind) {
				fail("one begins between, at", at)
			}
		}
		if hit.From > len(text) {
			break
		}
		end, ok := match.Longest(p, text, hit.From)
		if !ok || end != hit.To || hit.From < next || hit.To < hit.From {
			fail("no match, or one that overlaps, at", hit.From)
		}
		if hit.From == hit.To && hit.From == behind {
			fail("an empty one at an end, at", hit.From)
		}
		next, behind = hit.To, hit.To
	}
}

func TestTheyRise(t *testing.T) {
	few := append(strange(), texts("ab", 6)...)
	few = append(few, texts("a\u00e9\xff", 4)...)
	for _, pattern := range []string{
		"", "a", "a*", "a+", "a?", "ab", "aba", "a|ab", "a|", "ab|", "a*b", "(ab)*", "(ab)*a", "aa|b*", "^", "$", "^|$", "^a|", "a$|", "^a*|b*$", ".", ".*", "..", "(..)*", "(..)*$", "^(..)*", "\ufffd", "\ufffd*", "[^\ufffd]*", "\u00e9*", "a\u00e9|\u00e9a?", `[^\d\D]`, `[^\d\D]*`, "a{2,3}|b{2}",
	} {
		p := compiled(t, pattern)
		for _, text := range few {
			rises(t, p, text)
		}
	}
}
