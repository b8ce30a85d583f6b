package engine_test

import (
	"slices"
	"strings"
	"testing"

	"reedbed/api"
	"reedbed/engine"
	"reedbed/lit"
	"reedbed/parse"
	"reedbed/prog"
	"reedbed/sample"
)

// The texts, what is found in them, and the patterns of counts of counts.
var (
	texts, strange, hits = sample.Texts, sample.Strange, sample.Hits
	tower, times         = sample.Tower, sample.Times
)

// made is a pattern's engine.
func made(t *testing.T, pattern string) *engine.Engine {
	t.Helper()
	e, err := engine.Compile(pattern)
	if e == nil || err != api.OK {
		t.Fatalf("%q: no engine: %d", pattern, err)
	}
	return e
}

// layers are a pattern's tree and program, as the layers below answer them.
func layers(t *testing.T, pattern string) (api.Node, []api.Inst) {
	t.Helper()
	n, err := parse.Parse(pattern)
	if err != api.OK {
		t.Fatalf("%q has no tree: %d", pattern, err)
	}
	p, err := prog.Compile(n)
	if err != api.OK {
		t.Fatalf("%q has no program: %d", pattern, err)
	}
	return n, p
}

// measures asks for an engine's Size and Prefix: those of the layers below.
func measures(t *testing.T, pattern string) {
	t.Helper()
	n, p := layers(t, pattern)
	e := made(t, pattern)
	if size := e.Size(); size != len(p) {
		t.Errorf("%q: %d instructions; want %d", pattern, size, len(p))
	}
	want, just := lit.Prefix(n)
	if s, whole := e.Prefix(); s != want || whole != just {
		t.Errorf("%q: it begins with %q, %t; want %q, %t", pattern, s, whole, want, just)
	}
}

// none asks for no engine, and that error.
func none(t *testing.T, want api.Errno, patterns ...string) {
	t.Helper()
	for _, pattern := range patterns {
		if e, err := engine.Compile(pattern); e != nil || err != want {
			t.Errorf("%q: %v, %d; want none, %d", pattern, e, err, want)
		}
	}
}

// P13.1

func TestCompile(t *testing.T) {
	long := strings.Repeat("a", 200)
	for _, x := range []struct {
		pattern, prefix string
		whole           bool
		size            int
	}{
		{"", "", true, 1}, {"()", "", true, 1}, {"a", "a", true, 2}, {"abc", "abc", true, 4}, {"[a]b", "ab", true, 3}, {".", "", false, 2}, {"[ab]", "", false, 2}, {`[^\d\D]`, "", false, 2}, {`\.\n`, ".\n", true, 3}, {"^", "", false, 2}, {"$", "", false, 2}, {"^a", "", false, 3}, {"a$", "a", false, 3},
		{"ab|ac", "a", false, 7}, {"ab|ab", "ab", true, 7}, {"a|b", "", false, 5}, {"|", "", true, 3}, {"a||", "", false, 6}, {"(a|b)c", "", false, 6}, {"c(a|b)", "c", false, 6},
		{"a*", "", false, 4}, {"a+", "a", false, 5}, {"a?", "", false, 3}, {"a{0}", "", true, 1}, {"a{3}", "aaa", true, 4}, {"a{3,}", "aaa", false, 7}, {"a{3,5}", "aaa", false, 8}, {"(a|b){2}c", "", false, 10}, {"(ab){2}", "abab", true, 5}, {"(ab|ac){2}", "a", false, 13}, {"b+", "b", false, 5}, {"ab+c?", "ab", false, 8}, {"ab(c|d)", "ab", false, 7},
		{"\u00e9", "\u00e9", true, 2}, {"\u00e9|\u00e8", "\xc3", false, 5}, {"\u20ac\U0001f600", "\u20ac\U0001f600", true, 3}, {"\ufffd", "\ufffd", true, 2}, {"a\ufffdb", "a\ufffdb", true, 4}, {"\ufffd|\ufffe", "\xef\xbf", false, 5},
		{long, long, true, 201}, {strings.Repeat("\u00e9", 100), strings.Repeat("\u00e9", 100), true, 101}, {strings.Repeat("|", 200), "", true, 401}, {strings.Repeat("\U0001f600", 50), strings.Repeat("\U0001f600", 50), true, 51}, {strings.Repeat("a*", 100), "", false, 301}, {strings.Repeat("()", 100), "", true, 1},
		{"(a{50}){4}", long, true, 201}, {"(a{50}){4}b", long, false, 202}, {"b(a{50}){4}", "b" + long[1:], false, 202}, {tower("", times(10, "{50}")...), "", true, 1}, {tower("ab", times(10, "{1}")...), "ab", true, 3},
	} {
		e := made(t, x.pattern)
		if size := e.Size(); size != x.size {
			t.Errorf("%q: %d instructions; want %d", x.pattern, size, x.size)
		}
		if s, whole := e.Prefix(); s != x.prefix || whole != x.whole {
			t.Errorf("%q: it begins with %q, %t; want %q, %t", x.pattern, s, whole, x.prefix, x.whole)
		}
		measures(t, x.pattern)
	}
}

// TestNoPatterns: layer 9's error.
func TestNoPatterns(t *testing.T) {
	none(t, api.ErrPattern,
		"(", ")", "a)", "(a", "(()", "*", "a**", "a+?", "a|*", "^*", "$+", "(*)", "{", "}", "a{", "a{}", "a{,2}", "a{51}", "a{2,1}", "a{001}", "a{1", "[", "]", "[]", "[^]", "[a", "[b-a]", "[-]", `\`, `\a`, `\d\`, `[\`, "a]", "a}",
		"\xff", "a\xc3", "\xc3a", "\xed\xa0\x80", "\xf4\x90\x80\x80", "\xc0\x80", "[\x80]", "\xe2\x82", tower("a", times(11, "")...), strings.Repeat("a", 199)+"(", strings.Repeat("a", 199)+"\xff",
	)
	// They are none, however long their programs would be.
	none(t, api.ErrPattern, "(a{50}){40})", "((a{50}){50}){50}**", "(a{50}){50}[", "(a{50}){50}\xff", "(a{50}){51}")
}

func TestTooManyOctets(t *testing.T) {
	for _, full := range []string{strings.Repeat("a", 200), strings.Repeat("|", 200), strings.Repeat("\u00e9", 100), strings.Repeat("\u20ac", 66) + "ab", strings.Repeat(`\.`, 100), strings.Repeat("()", 100)} {
		made(t, full)
		none(t, api.ErrBig, full+"a", "a"+full, full+"\u20ac", full+full)
	}
	// Nor are they any patterns.
	none(t, api.ErrBig, strings.Repeat("(", 201), strings.Repeat("a", 200)+"*", strings.Repeat("a", 200)+"\xff", strings.Repeat("\xff", 201), strings.Repeat("*", 1<<20))
}

// TestTooManyInstructions: layer 10's error.
func TestTooManyInstructions(t *testing.T) {
	for _, x := range []struct {
		pattern string
		size    int // above 2000: none
	}{
		{"(a{50}){39}a{48}", 1999}, {"(a{50}){39}a{49}", 2000}, {"(a{50}){39}a{50}", 2001}, {"(a{50}){40}", 2001}, {"^(a{50}){39}a{46}$", 1999}, {"^(a{50}){39}a{47}$", 2000}, {"^(a{50}){39}a{48}$", 2001}, {"(a{50}){39}a{45}|b", 1999}, {"(a{50}){39}a{46}|b", 2000}, {"(a{50}){39}a{47}|b", 2001}, {"(a{50}){39}a{45}b*", 1999}, {"(a{50}){39}a{46}b*", 2000}, {"(a{50}){39}a{47}b*", 2001}, {"((a|b){10}){49}.{38}", 1999}, {"((a|b){10}){49}.{39}", 2000}, {"((a|b){10}){49}.{40}", 2001}, {"(a{0,50}){19}(a?){49}a", 2000}, {"(a{0,50}){19}(a?){50}", 2001}, {"(a{50}){50}", 2501}, {"((a{50}){50}){50}", 125001}, {tower("a", times(10, "{50}")...), 1 << 40}, {"|" + tower(`\d`, times(9, "{50,}")...), 1 << 40},
	} {
		if x.size > 2000 {
			none(t, api.ErrBig, x.pattern)
			continue
		}
		if size := made(t, x.pattern).Size(); size != x.size {
			t.Errorf("%q: %d instructions; want %d", x.pattern, size, x.size)
		}
		measures(t, x.pattern)
	}
}

// grown are all patterns about these, two by two or with a count.
func grown(patterns []string) []string {
	all := slices.Clone(patterns)
	for _, pattern := range patterns {
		for _, count := range []string{"{0}", "?", "{2}", "{1,3}", "*", "{2,}"} {
			all = append(all, "("+pattern+")"+count)
		}
		for _, other := range patterns {
			all = append(all, "("+pattern+")("+other+")", "("+pattern+")|("+other+")")
		}
	}
	return all
}

// TestTreesInOneAnother: each kind of tree within each within each.
func TestTreesInOneAnother(t *testing.T) {
	few := append(texts("ab", 2), "aba", "\xffa", "b\xffaa")
	for _, pattern := range grown(grown([]string{"", "a", "b", "[ab]", `[^\d\D]`, "^", "$"})) {
		measures(t, pattern)
		finds(t, pattern, few...)
	}
}
