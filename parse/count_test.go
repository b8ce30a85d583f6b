package parse_test

import (
	"fmt"
	"slices"
	"strings"
	"testing"

	"reedbed/api"
)

// P9.1: counts.

func TestCounts(t *testing.T) {
	are(t,
		pattern{"a*", rep(0, -1, a)},
		pattern{"a+", rep(1, -1, a)},
		pattern{"a?", rep(0, 1, a)},
		pattern{"a{2}", rep(2, 2, a)},
		pattern{"a{2,}", rep(2, -1, a)},
		pattern{"a{2,3}", rep(2, 3, a)},
		pattern{"a{2,2}", rep(2, 2, a)},
		pattern{"a{0}", rep(0, 0, a)},
		pattern{"a{00}", rep(0, 0, a)},
		pattern{"a{0,}", rep(0, -1, a)},
		pattern{"a{0,0}", rep(0, 0, a)},
		pattern{"a{0,1}", rep(0, 1, a)},
		pattern{"a{1}", rep(1, 1, a)},
		pattern{"a{01}", rep(1, 1, a)},
		pattern{"a{1,}", rep(1, -1, a)},
		pattern{"a{02,50}", rep(2, 50, a)},
		pattern{"a{9,10}", rep(9, 10, a)},
		pattern{"a{50}", rep(50, 50, a)},
		pattern{"a{50,}", rep(50, -1, a)},
		pattern{"a{50,50}", rep(50, 50, a)},
		pattern{"a{0,50}", rep(0, 50, a)},
	)
}

func TestCountsThatAreNone(t *testing.T) {
	areNone(t,
		"a{}", "a{,}", "a{,2}", "a{,50}", "a{ }", "a{x}", "a{-1}", "a{+1}", "a{1 }", "a{ 1}", "a{1, 2}", "a{1 ,2}", "a{1,2 }", "a{1.2}", "a{1-2}", "a{1;2}", "a{1,x}", "a{x,1}", "a{1,-1}", "a{1,,2}", "a{1,2,3}", "a{1,2,}", "a{,,}", "a{1,,}",
		"a{", "a{1", "a{1,", "a{1,2", "a{12", "a{12,34", "a{1)", "a{1]", "(a{1)}", "a{1|}", "a{1,|2}", "a{{1}", "a{1}}", "a{1{2}}", "a{(1)}", `a{\1}`, `a\{1}`, "a{1\n}",
		"a{51}", "a{51,}", "a{51,52}", "a{0,51}", "a{50,51}", "a{99}", "a{0,99}", "a{99,99}", "a{60,10}",
		"a{100}", "a{000}", "a{001}", "a{010}", "a{1,100}", "a{1,002}", "a{100,}", "a{001,2}", "a{0050}", "a{050}", "a{1,050}", "a{18446744073709551617}", "a{4294967297}",
		"a{3,2}", "a{1,0}", "a{50,49}", "a{10,9}", "a{2,01}", "a{9,08}",
		// Digits that are none of these ten.
		"a{\u0661}", "a{\uff11}", "a{1\u0661}", "a{1,\u0662}", "a{\u0131}", "a{\u0132,\u0133}", "a{/}", "a{:}", "a{1:}", "a{/1}", "a{a}",
	)
}

// TestCountsOfAllNumbers: each of one, two and three digits, and each with each.
func TestCountsOfAllNumbers(t *testing.T) {
	form := func(s string, least, most int, ok bool) {
		if ok {
			is(t, s, rep(least, most, a))
		} else {
			isNone(t, s, api.ErrPattern)
		}
	}
	for m := range 130 {
		for _, digits := range []string{fmt.Sprint(m), fmt.Sprintf("%02d", m), fmt.Sprintf("%03d", m)} {
			ok := m <= 50 && len(digits) <= 2
			form("a{"+digits+"}", m, m, ok)
			form("a{"+digits+",}", m, -1, ok)
			form("a{,"+digits+"}", 0, m, false)
			for n := range 60 {
				ok := ok && n <= 50
				form(fmt.Sprintf("a{%d,%s}", n, digits), n, m, ok && n <= m)
				form(fmt.Sprintf("a{%s,%02d}", digits, n), m, n, ok && m <= n)
			}
		}
	}
}

// counts are those of each form, and what they make of an atom.
func counts() map[string]func(n api.Node) api.Node {
	of := func(least, most int) func(n api.Node) api.Node {
		return func(n api.Node) api.Node { return rep(least, most, n) }
	}
	return map[string]func(n api.Node) api.Node{
		"*": of(0, -1), "+": of(1, -1), "?": of(0, 1), "{3}": of(3, 3), "{0}": of(0, 0), "{3,}": of(3, -1), "{3,4}": of(3, 4), "{03,50}": of(3, 50),
	}
}

func TestWhereCountsStand(t *testing.T) {
	for count, of := range counts() {
		are(t,
			pattern{"a" + count, of(a)},
			pattern{"ab" + count, cat(a, of(b))},
			pattern{"a" + count + "b", cat(of(a), b)},
			pattern{"a" + count + "b" + count, cat(of(a), of(b))},
			pattern{"a|b" + count, alt(a, of(b))},
			pattern{"a" + count + "|b", alt(of(a), b)},
			pattern{"a" + count + "|", alt(of(a), empty())},
			pattern{"(a" + count + ")", of(a)},
			pattern{"(a)" + count, of(a)},
			pattern{"(ab)" + count, of(cat(a, b))},
			pattern{"(a|b)" + count, of(alt(a, b))},
			pattern{"()" + count, of(empty())},
			pattern{"(|)" + count, of(alt(empty(), empty()))},
			pattern{"(a" + count + ")" + count, of(of(a))},
			pattern{"((a" + count + ")" + count + ")" + count, of(of(of(a)))},
			pattern{"(a" + count + "b)" + count, of(cat(of(a), b))},
			pattern{"(^)" + count, of(begin())},
			pattern{"($)" + count, of(end())},
			pattern{"(^a$)" + count, of(cat(begin(), a, end()))},
			pattern{"^a" + count + "$", cat(begin(), of(a), end())},
			pattern{"a" + count + "^", cat(of(a), begin())},
			pattern{"a" + count + "$", cat(of(a), end())},
			pattern{"." + count, of(dot())},
			pattern{"[ab]" + count, of(char('a', 'b'))},
			pattern{"[^a]" + count, of(others(a))},
			pattern{`\d` + count, of(char('0', '9'))},
			pattern{`\*` + count, of(one('*'))},
			pattern{`\\` + count, of(one('\\'))},
			pattern{`\^` + count, of(one('^'))},
			pattern{`\n` + count, of(one(10))},
			pattern{"-" + count, of(one('-'))},
			pattern{"," + count, of(one(','))},
			pattern{"1" + count, of(one('1'))},
			pattern{"\u20ac" + count, of(one(0x20ac))},
			pattern{"\U0001f600" + count, of(one(0x1f600))},
		)
		for _, ahead := range []string{"", "|", "a|", "(", "a(", "(a|", "^", "$", "a^", "a$", "(^", "a|^", "^$", "()|", "(a)|(", "}", "]"} {
			areNone(t, ahead+count, ahead+count+"a", "("+ahead+count+")", ahead+count+")")
		}
	}
}

func TestCountsBehindCounts(t *testing.T) {
	for first := range counts() {
		for second := range counts() {
			areNone(t, "a"+first+second, "(a)"+first+second, "[a]"+first+second, `\d`+first+second, "."+first+second, "a"+first+second+"b", "(a"+first+second+")", "a|b"+first+second, "a"+first+"^"+second, "a"+first+"|"+second)
		}
	}
	areNone(t, "a***", "a*+?", "a*?", "a+?", "a??", "a*+", "a{1}{2}", "a{1}?", "a*{1}")
}

func TestBeginningAndEnd(t *testing.T) {
	are(t,
		pattern{"^", begin()},
		pattern{"$", end()},
		pattern{"^$", cat(begin(), end())},
		pattern{"$^", cat(end(), begin())},
		pattern{"^^", cat(begin(), begin())},
		pattern{"$$", cat(end(), end())},
		pattern{"^a$", cat(begin(), a, end())},
		pattern{"a^b", cat(a, begin(), b)},
		pattern{"a$b", cat(a, end(), b)},
		pattern{"^|$", alt(begin(), end())},
		pattern{"a|^", alt(a, begin())},
		pattern{"(^)", begin()},
		pattern{"($)a", cat(end(), a)},
		pattern{"(^|a)b", cat(alt(begin(), a), b)},
		pattern{`\^\$`, cat(one('^'), one('$'))},
		pattern{strings.Repeat("^", 200), cat(slices.Repeat([]api.Node{begin()}, 200)...)},
	)
}
