package prog_test

import (
	"math"
	"math/big"
	"slices"
	"strings"
	"testing"

	"reedbed/api"
	"reedbed/parse"
	"reedbed/prog"
	"reedbed/sample"
)

const (
	last    = 0x10ffff
	longest = 1 << 40
)

// The trees, by hand.
var (
	empty, begin, end = sample.Empty, sample.Begin, sample.End
	char, one         = sample.Char, sample.One
	cat, alt, rep     = sample.Cat, sample.Alt, sample.Rep
	grown             = sample.Grown
)

// The patterns of counts of counts.
var tower, times = sample.Tower, sample.Times

// a, b, c are the trees of these letters; never is one that matches nothing.
var a, b, c, never = one('a'), one('b'), one('c'), char()

// parsed is a pattern's tree.
func parsed(t *testing.T, pattern string) api.Node {
	t.Helper()
	n, err := parse.Parse(pattern)
	if err != api.OK {
		t.Fatalf("%q is no pattern: %d", pattern, err)
	}
	return n
}

// long is how long a tree is, by the document's words, however long that is.
func long(n api.Node) *big.Int {
	sum := new(big.Int)
	for _, kid := range n.Kids {
		sum.Add(sum, long(kid))
	}
	number := func(k int) *big.Int { return big.NewInt(int64(k)) }
	switch n.Op {
	case api.OpChar, api.OpBegin, api.OpEnd:
		return number(1)
	case api.OpCat:
		return sum
	case api.OpAlt:
		return sum.Add(sum, number(2*(len(n.Kids)-1)))
	case api.OpRep:
		must := new(big.Int).Mul(number(n.Min), sum)
		if n.Max < 0 {
			return must.Add(must, sum.Add(sum, number(2)))
		}
		may := number(n.Max - n.Min)
		return must.Add(must, may.Mul(may, sum.Add(sum, number(1))))
	}
	return number(0)
}

// told is what Length tells of a tree, by the document's words.
func told(n api.Node) int {
	l := long(n)
	if l.Cmp(big.NewInt(longest)) > 0 {
		return longest
	}
	return int(l.Int64())
}

// sized is a tree of just that length, with no count above 50 and no parentheses
// deeper than a pattern has them.
func sized(length int) api.Node {
	rest := rep(length%32, length%32, a)
	if length < 32 {
		return rest
	}
	return cat(rep(32, 32, sized(length/32)), rest)
}

// measures asks how long a tree is, and that it has a program just if that isn't
// too long.
func measures(t *testing.T, n api.Node, want int) {
	t.Helper()
	if told(n) != want {
		t.Fatalf("the tests' own length is %d; want %d", told(n), want)
	}
	if l := prog.Length(n); l != want {
		t.Errorf("length %d; want %d", l, want)
	}
	p, err := prog.Compile(n)
	if want >= 2000 && (err != api.ErrBig || len(p) != 0) || want < 2000 && (err != api.OK || len(p) != want+1) {
		t.Errorf("of length %d: %d instructions, error %d", want, len(p), err)
	}
}

// P10.1: how long trees are.

func TestLength(t *testing.T) {
	for pattern, want := range map[string]int{
		"": 0, "()": 0, "()()": 0, "a": 1, "^": 1, "$": 1, ".": 1, `\w`: 1, "[^a]": 1, `[^\d\D]`: 1,
		"ab": 2, "abc": 3, "^a$": 3, "a(bc)d": 4, "a()b": 2,
		"a|b": 4, "|": 2, "||": 4, "a|": 3, "|a": 3, "a|b|c": 7, "ab|a|abc": 10, "(a|b)|c": 7, "a|(b|c)": 7, "(a|b)(b|c)": 8, "^|$": 4,
		"a*": 3, "a+": 4, "a?": 2, "a{0}": 0, "a{1}": 1, "a{2}": 2, "a{50}": 50, "a{0,}": 3, "a{1,}": 4, "a{2,}": 5, "a{50,}": 53,
		"a{0,0}": 0, "a{0,1}": 2, "a{1,1}": 1, "a{1,2}": 3, "a{2,2}": 2, "a{0,50}": 100, "a{2,50}": 98, "a{49,50}": 51,
		"()*": 2, "()+": 2, "()?": 1, "(){0}": 0, "(){50}": 0, "(){3,}": 2, "(){0,50}": 50, "(){2,5}": 3,
		"(ab)*": 4, "(ab)+": 6, "(ab)?": 3, "(ab){3}": 6, "(ab){3,}": 10, "(ab){3,5}": 12, "(a|b)*": 6, "(a|b){2,3}": 13,
		"(a*)*": 5, "(a+)+": 10, "(a?)?": 3, "(a{2}){3}": 6, "(a{0}){3}": 0, "(a{3}){0}": 0, "(a{0,2}){0,2}": 10, "((a{2,}){2,}){2,}": 53,
		"a{3}b*": 6, "a{1,2}b?": 5, "(a*|b+)?c": 11, `\d{3}-\d{4}`: 8,
		strings.Repeat("a", 200): 200, strings.Repeat("|", 200): 400, strings.Repeat("a|", 99) + "a": 298, strings.Repeat("a*", 100): 300,
	} {
		n := parsed(t, pattern)
		if l := prog.Length(n); l != want || l != told(n) {
			t.Errorf("%q: %d; want %d, %d", pattern, l, want, told(n))
		}
	}
}

// TestLengthOfTwo: an alternative of two trees that Parse answers, of which any
// may be one itself.
func TestLengthOfTwo(t *testing.T) {
	patterns := []string{"", "a", "^", "$", "ab", "a|b", "a|b|c", "a*", "(a|b)+", "(){9}", "a{50}", "(a{50}){39}a{47}", "(a{50}){39}a{48}", "((a{50}){50}){50}", tower("a{50}", "{50}", "{50}", "{50}", "{50}", "{50}", "{50}", "{50}", "{50}", "{50}", "{50}")}
	for _, first := range patterns {
		for _, second := range patterns {
			n := alt(parsed(t, first), parsed(t, second))
			measures(t, n, told(n))
		}
	}
	measures(t, alt(a, b), 4)
	measures(t, alt(alt(a, b), c), 7)
	measures(t, alt(a, alt(b, c)), 7)
	measures(t, alt(alt(a, b), alt(b, c)), 10)
	measures(t, alt(empty(), empty()), 2)
	measures(t, alt(sized(1000), sized(997)), 1999)
	measures(t, alt(sized(1000), sized(998)), 2000)
	measures(t, alt(sized(999), sized(1000)), 2001)
	measures(t, alt(sized(1<<39), sized(1<<39-3)), longest-1)
	measures(t, alt(sized(1<<39), sized(1<<39-2)), longest)
	measures(t, alt(sized(1<<39), sized(1<<39-1)), longest)
	measures(t, alt(sized(1<<39), sized(1<<39)), longest)
	measures(t, alt(empty(), sized(longest-3)), longest-1)
	measures(t, alt(sized(longest-2), empty()), longest)
	measures(t, alt(sized(longest), sized(longest)), longest)
}

// TestLengthsBesideMost: the longest trees that have programs, and the shortest
// ones that have none, by each Op.
func TestLengthsBesideMost(t *testing.T) {
	for length := 1900; length < 2100; length++ {
		measures(t, sized(length), length)
	}
	for pattern, want := range map[string]int{
		"(a{50}){39}a{49}":               1999,
		"(a{50}){40}":                    2000,
		"(a{50}){40}a":                   2001,
		"(a{49}){40}a{36}b*":             1999,
		"(a{49}){40}a{37}b*":             2000,
		"(a{49}){40}a{38}b*":             2001,
		"((a?){50}){19}(a?){49}b":        1999,
		"((a?){50}){20}":                 2000,
		"((a?){50}){20}b":                2001,
		"((a|b){50}){9}(a|b){49}a{3}":    1999,
		"((a|b){50}){10}":                2000,
		"((a|b){50}){10}^":               2001,
		"((a{50}){20}|(a{50}){19}a{47})": 1999,
		"(a{50}){20}|(a{50}){19}a{48}":   2000,
		"(a{50}){20}|(a{50}){19}a{49}":   2001,
		"((a{36}){18}a{17}){2,}":         1997,
		"((a{36}){18}a{18}){2,}":         2000,
		"((a{49}){0,39}){1}a{49}":        1999,
		"((a{49}){0,40})":                2000,
		"$((a{49}){0,40})":               2001,
		"((^){50}){39}($){49}":           1999,
		"((^){50}){39}($){50}":           2000,
		"((^){50}){40}($)":               2001,
	} {
		measures(t, parsed(t, pattern), want)
	}
	for _, c := range []struct {
		n    api.Node
		want int
	}{
		{cat(slices.Repeat([]api.Node{a}, 1999)...), 1999},
		{cat(slices.Repeat([]api.Node{a}, 2000)...), 2000},
		{cat(slices.Repeat([]api.Node{a}, 2001)...), 2001},
		{alt(slices.Repeat([]api.Node{a}, 667)...), 1999},
		{cat(a, alt(slices.Repeat([]api.Node{a}, 667)...)), 2000},
		{alt(slices.Repeat([]api.Node{a}, 668)...), 2002},
		{alt(slices.Repeat([]api.Node{empty()}, 1000)...), 1998},
		{alt(slices.Repeat([]api.Node{empty()}, 1001)...), 2000},
		{alt(append(slices.Repeat([]api.Node{empty()}, 999), a)...), 1999},
		{cat(slices.Repeat([]api.Node{empty()}, 100000)...), 0},
		{cat(slices.Repeat([]api.Node{a}, 100000)...), 100000},
	} {
		measures(t, c.n, c.want)
	}
}

func TestLengthsBesideLongest(t *testing.T) {
	for k := -40; k <= 40; k++ {
		measures(t, sized(longest+k), min(longest+k, longest))
	}
	for pattern, want := range map[string]int{
		tower("a{31}", times(7, "{32}")...):             31 << 35,
		tower("a{32}", times(7, "{32}")...):             longest,
		tower("a{32}", times(7, "{32}")...) + "b":       longest,
		tower(tower("a{32}", times(7, "{32}")...), "*"): longest,
	} {
		measures(t, parsed(t, pattern), want)
	}
	for _, c := range []struct {
		n    api.Node
		want int
	}{
		// 32 times one more.
		{rep(0, 32, sized(1<<35-1)), longest},
		{rep(0, 32, sized(1<<35)), longest},
		{rep(0, 32, sized(1<<35-2)), longest - 32},
		{rep(0, 1, sized(longest-2)), longest - 1},
		{rep(0, 1, sized(longest-1)), longest},
		{rep(0, 1, sized(longest)), longest},
		{rep(1, 2, sized(1<<39-1)), longest - 1},
		{rep(1, 2, sized(1<<39)), longest},
		// Once more, and 2.
		{rep(0, -1, sized(longest-3)), longest - 1},
		{rep(0, -1, sized(longest-2)), longest},
		{rep(0, -1, sized(longest-1)), longest},
		{rep(1, -1, sized(1<<39-2)), longest - 2},
		{rep(1, -1, sized(1<<39-1)), longest},
		{rep(1, -1, sized(1<<39)), longest},
		{rep(2, 2, sized(1<<39-1)), longest - 2},
		{rep(2, 2, sized(1<<39)), longest},
		{rep(2, 2, sized(1<<39+1)), longest},
		{cat(sized(longest-1), a), longest},
		{cat(sized(longest-2), a), longest - 1},
		{cat(sized(1<<39), sized(1<<39-1)), longest - 1},
		{cat(sized(1<<39), sized(1<<39)), longest},
	} {
		measures(t, c.n, c.want)
	}
}

func TestLengthsFarAbove(t *testing.T) {
	for _, pattern := range []string{
		tower("a", times(10, "{50}")...),
		tower("a{50}", times(10, "{50}")...),
		tower("a{50}", times(10, "{50,}")...),
		tower("a{50}", times(10, "{0,50}")...),
		tower("a{50,}", times(10, "{49,50}")...),
		tower("a|b", times(10, "{50}")...) + "|" + tower("a", times(10, "{50}")...),
		tower("a", times(10, "{50}")...) + tower("a", times(10, "{50}")...),
		tower(tower("a", times(9, "{50}")...), "*"),
		// The products pass an int: that of the first one would come out below 0, those
		// of the others as numbers that may be told.
		tower("a{50}a{50}", times(10, "{50}")...),
		tower(strings.Repeat("a{0,50}", 10)+"a{31}", "{50}", "{43}", "{49}", "{49}", "{49}", "{47}", "{50}", "{50}", "{43}", "{42}"),
		tower(strings.Repeat("a{0,50}", 10)+"a{19}", "{40}", "{43}", "{49}", "{49}", "{41}", "{47}", "{47}", "{50}", "{44}", "{44}"),
	} {
		measures(t, parsed(t, pattern), longest)
	}
	n := parsed(t, tower("a{50}", times(10, "{50}")...))
	for range 100 {
		n = rep(50, 50, n)
	}
	measures(t, n, longest)
	measures(t, alt(n, n), longest)
	measures(t, cat(a, n, b), longest)
	measures(t, rep(0, 1, n), longest)
	measures(t, rep(0, -1, n), longest)
	// None of them is none.
	measures(t, rep(0, 0, n), 0)
	measures(t, cat(a, rep(50, 50, rep(0, 0, n)), b), 2)
	measures(t, alt(rep(0, 0, n), rep(0, 0, n)), 2)
	measures(t, rep(0, -1, rep(0, 0, n)), 2)
}

// TestCountsOfNothing: what has no instructions has none however often it stands
// there, and that it stands there so often takes no time.
func TestCountsOfNothing(t *testing.T) {
	nothing := tower("(){50}", times(8, "{50}")...)
	for pattern, want := range map[string]int{
		nothing:                                  0,
		tower("a{0}", times(10, "{50}")...):      0,
		tower("a{50}", "{50}", "{0}", "{50}"):    0,
		tower("()(|){0}()", times(9, "{50}")...): 0,
		"a" + nothing + "b|c":                    5,
		tower(nothing, "*"):                      2,
		tower(nothing, "{50,}"):                  2,
		tower(nothing, "{0,50}"):                 50,
		tower(nothing, "{7,50}"):                 43,
	} {
		measures(t, parsed(t, pattern), want)
	}
	n := empty()
	for range 1000 {
		n = rep(50, 50, n)
	}
	measures(t, n, 0)
	measures(t, rep(math.MaxInt, math.MaxInt, empty()), 0)
}

func TestDeepTrees(t *testing.T) {
	const deep = 60000
	n, m := a, empty()
	for range deep {
		n, m = rep(1, 1, n), cat(m, empty())
	}
	measures(t, n, 1)
	measures(t, m, 0)
	for range deep {
		n = rep(0, 1, n)
	}
	measures(t, n, deep+1)
}
