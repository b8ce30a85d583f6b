package prog_test

import (
	"slices"
	"strings"
	"testing"

	"reedbed/api"
	"reedbed/parse"
	"reedbed/prog"
	"reedbed/sample"
)

// treeEnds are a tree's over a text, from any of these places, by the document's
// words.
func treeEnds(n api.Node, text []int, from sample.Places) sample.Places {
	var ends sample.Places
	switch n.Op {
	case api.OpEmpty:
		return from
	case api.OpChar:
		for at, r := range text {
			if from&sample.At(at) != 0 && sample.InRanges(n.Set, r) {
				ends |= sample.At(at + 1)
			}
		}
	case api.OpBegin:
		return from & sample.At(0)
	case api.OpEnd:
		return from & sample.At(len(text))
	case api.OpCat:
		for _, kid := range n.Kids {
			from = treeEnds(kid, text, from)
		}
		return from
	case api.OpAlt:
		for _, kid := range n.Kids {
			ends |= treeEnds(kid, text, from)
		}
	case api.OpRep:
		for range n.Min {
			from = treeEnds(n.Kids[0], text, from)
		}
		ends = from
		for i := n.Min; n.Max < 0 || i < n.Max; i++ {
			more := ends | treeEnds(n.Kids[0], text, ends)
			if more == ends {
				break
			}
			ends = more
		}
	}
	return ends
}

// tidy: is a program right, with nothing in what its instructions don't use?
func tidy(p []api.Inst) bool {
	for _, in := range p {
		x, y, s := in.X >= 0 && in.X < len(p), in.Y >= 0 && in.Y < len(p), len(in.Set) == 0
		switch in.Op {
		case api.InMatch:
			x, y = in.X == 0, in.Y == 0
		case api.InChar:
			y, s = in.Y == 0, true
		case api.InSplit:
		case api.InBegin, api.InEnd:
			y = in.Y == 0
		default:
			return false
		}
		if !x || !y || !s {
			return false
		}
	}
	return len(p) > 0
}

// compiles asks for a tree's program: that it is right and one instruction longer
// than the tree, and has the tree's ends over these texts, from all places.
func compiles(t *testing.T, n api.Node, texts ...[]int) {
	t.Helper()
	p, err := prog.Compile(n)
	if err != api.OK || len(p) != told(n)+1 || len(p) != prog.Length(n)+1 || !prog.Right(p) || !tidy(p) {
		t.Fatalf("%s: %v, %d; want %d instructions", parse.Show(n), p, err, told(n)+1)
	}
	for _, text := range texts {
		for at := range len(text) + 1 {
			if got, want := sample.ProgramEnds(p, text, at), treeEnds(n, text, sample.At(at)); got != want {
				t.Fatalf("%s over %v from %d: %b; want %b: %v", parse.Show(n), text, at, got, want, p)
			}
		}
	}
}

// texts are all of those letters, up to so many.
func texts(letters string, most int) [][]int {
	var all [][]int
	sample.Each([]byte(letters), most, func(s []byte) { all = append(all, sample.Points(string(s))) })
	return all
}

// P10.1: what programs come to.

func TestEnds(t *testing.T) {
	for _, x := range []struct {
		pattern, text string
		at            int
		want          sample.Places
	}{
		{"", "", 0, sample.At(0)}, {"", "ab", 0, sample.At(0)}, {"", "ab", 1, sample.At(1)}, {"", "ab", 2, sample.At(2)},
		{"a", "", 0, 0}, {"a", "aa", 0, sample.At(1)}, {"a", "aa", 1, sample.At(2)}, {"a", "aa", 2, 0}, {"a", "ba", 0, 0},
		{"^", "", 0, sample.At(0)}, {"^", "ab", 0, sample.At(0)}, {"^", "ab", 1, 0}, {"^", "ab", 2, 0},
		{"$", "", 0, sample.At(0)}, {"$", "ab", 0, 0}, {"$", "ab", 1, 0}, {"$", "ab", 2, sample.At(2)},
		{"^$", "", 0, sample.At(0)}, {"^$", "a", 0, 0}, {"^$", "a", 1, 0}, {"$^", "", 0, sample.At(0)},
		{"ab", "ab", 0, sample.At(2)}, {"ab", "aab", 1, sample.At(3)}, {"ab", "aab", 0, 0}, {"a^b", "ab", 0, 0}, {"a$b", "ab", 0, 0}, {"^ab$", "ab", 0, sample.At(2)}, {"b$", "ab", 1, sample.At(2)}, {"^b", "ab", 1, 0},
		{"ab|a|abc", "abcd", 0, sample.At(1, 2, 3)}, {"a|b", "ab", 1, sample.At(2)}, {"a|", "a", 0, sample.At(0, 1)}, {"|a", "a", 0, sample.At(0, 1)}, {"a|a", "a", 0, sample.At(1)}, {"^|$", "ab", 0, sample.At(0)}, {"^|$", "ab", 1, 0}, {"^|$", "ab", 2, sample.At(2)},
		{"a*", "aaab", 0, sample.At(0, 1, 2, 3)}, {"a*", "aaab", 2, sample.At(2, 3)}, {"a*", "aaab", 3, sample.At(3)}, {"a*", "aaab", 4, sample.At(4)},
		{"a+", "aaab", 0, sample.At(1, 2, 3)}, {"a+", "aaab", 3, 0}, {"a?", "aaab", 0, sample.At(0, 1)}, {"a?", "aaab", 1, sample.At(1, 2)}, {"a?", "aaab", 3, sample.At(3)},
		{"a{0}", "aaab", 1, sample.At(1)}, {"a{0,0}", "aaab", 0, sample.At(0)}, {"a{1}", "aaab", 0, sample.At(1)}, {"a{2}", "aaab", 0, sample.At(2)}, {"a{2}", "aaab", 1, sample.At(3)}, {"a{2}", "aaab", 2, 0},
		{"a{2,}", "aaaa", 0, sample.At(2, 3, 4)}, {"a{2,}", "aaaa", 3, 0}, {"a{1,2}", "aaaa", 0, sample.At(1, 2)}, {"a{2,3}", "aaaa", 0, sample.At(2, 3)}, {"a{0,3}", "aaaa", 0, sample.At(0, 1, 2, 3)}, {"a{4,50}", "aaaa", 0, sample.At(4)}, {"a{5,50}", "aaaa", 0, 0},
		{"a{1,2}b?", "aab", 0, sample.At(1, 2, 3)}, {"(ab)*", "ababa", 0, sample.At(0, 2, 4)}, {"(a|ab)(b|)", "abb", 0, sample.At(1, 2, 3)}, {"(a*)*", "aa", 0, sample.At(0, 1, 2)}, {"(a{2}){1,2}", "aaaaaa", 0, sample.At(2, 4)}, {"(a{2,3}){2}", "aaaaaaa", 0, sample.At(4, 5, 6)},
		{"()*", "a", 0, sample.At(0)}, {"()+", "a", 1, sample.At(1)}, {"(^)*", "a", 0, sample.At(0)}, {"(^)*", "a", 1, sample.At(1)}, {"(^)+", "a", 1, 0}, {"($){3}", "a", 1, sample.At(1)}, {"(^a)*", "aa", 0, sample.At(0, 1)}, {"(^a)*", "aa", 1, sample.At(1)},
		{`[^\d\D]`, "a", 0, 0}, {`[^\d\D]*`, "a", 0, sample.At(0)}, {`[^\d\D]+`, "a", 0, 0}, {`[^\d\D]{0}a`, "a", 0, sample.At(1)}, {`[^\d\D]|a`, "a", 0, sample.At(1)}, {`a[^\d\D]?`, "a", 0, sample.At(1)},
	} {
		n, text := parsed(t, x.pattern), sample.Points(x.text)
		compiles(t, n, text)
		p, _ := prog.Compile(n)
		if got := sample.ProgramEnds(p, text, x.at); got != x.want {
			t.Errorf("%q over %q from %d: %b; want %b", x.pattern, x.text, x.at, got, x.want)
		}
	}
}

// TestTreesInOneAnother: each Op within each within each, those that Parse never
// answers in one another too.
func TestTreesInOneAnother(t *testing.T) {
	leaves := []api.Node{empty(), a, char('a', 'b'), never, begin(), end()}
	for _, n := range grown(leaves) {
		compiles(t, n, texts("ab", 5)...)
	}
	for _, n := range grown(grown(leaves)) {
		compiles(t, n, texts("ab", 2)...)
	}
}

// TestAllShortPatterns: those of all texts of an alphabet.
func TestAllShortPatterns(t *testing.T) {
	for _, x := range []struct {
		letters string
		most    int
	}{
		{"ab|()*", 6}, {"a|()?^$", 5}, {"a{}02,", 6}, {"ab|+", 6},
	} {
		over, patterns := texts("ab", 4), 0
		sample.Each([]byte(x.letters), x.most, func(s []byte) {
			if n, err := parse.Parse(string(s)); err == api.OK {
				compiles(t, n, over...)
				patterns++
			}
		})
		if patterns < 100 {
			t.Errorf("%q: %d patterns alone", x.letters, patterns)
		}
	}
}

// TestAllCounts: of kids that match something, nothing, or the empty text.
func TestAllCounts(t *testing.T) {
	kids := []api.Node{
		a, never, empty(), begin(), end(), cat(a, b), cat(a, a), cat(a, never), cat(begin(), a), cat(a, end()), alt(a, b), alt(a, cat(a, a)), alt(a, empty()), alt(empty(), a), alt(never, empty()), alt(begin(), a), alt(a, end()),
		rep(0, -1, a), rep(1, -1, a), rep(0, 1, a), rep(2, 2, a), rep(2, 3, a), rep(0, 0, a), rep(3, -1, a), rep(0, -1, empty()), rep(0, 2, rep(0, 2, a)), rep(0, -1, rep(0, -1, a)), cat(rep(0, 1, a), rep(0, 1, b)), rep(0, -1, alt(a, empty())),
	}
	over := append(texts("ab", 3), sample.Points("aaaaaaaaaaaa"), sample.Points("aaaaaaaab"), sample.Points("abababab"), sample.Points("aabaabaa"))
	for _, kid := range kids {
		for least := range 5 {
			compiles(t, rep(least, -1, kid), over...)
			compiles(t, cat(rep(least, -1, kid), b), over...)
			for more := range 5 {
				compiles(t, rep(least, least+more, kid), over...)
				compiles(t, cat(b, rep(least, least+more, kid)), over...)
			}
		}
	}
	for _, kid := range []api.Node{a, never, empty(), cat(a, b), alt(a, empty())} {
		compiles(t, rep(50, 50, kid), sample.Points(strings.Repeat("a", 51)), sample.Points(strings.Repeat("ab", 31)))
		compiles(t, rep(49, -1, kid), sample.Points(strings.Repeat("a", 51)), sample.Points(strings.Repeat("ab", 31)))
		compiles(t, rep(0, 50, kid), sample.Points(strings.Repeat("a", 51)), sample.Points(strings.Repeat("ab", 31)))
		compiles(t, rep(47, 50, kid), sample.Points(strings.Repeat("a", 49)), sample.Points(strings.Repeat("ab", 31)))
	}
}

// TestManyKids: far more than two.
func TestManyKids(t *testing.T) {
	letters := []api.Node{a, b, c, alt(a, b), empty(), rep(0, 1, c), cat(a, b), rep(1, 2, b)}
	over := append(texts("abc", 4), sample.Points("abcabbcabbb"), sample.Points("abcaabbb"))
	for n := range 8 {
		for first := range letters {
			kids := slices.Concat(letters[first:], letters[:first])[:n+1]
			compiles(t, cat(kids...), over...)
			compiles(t, alt(kids...), over...)
			compiles(t, cat(alt(kids...), alt(kids...)), over...)
			compiles(t, rep(0, -1, alt(kids...)), over...)
		}
	}
	// Each alternative counts, the last one too.
	var words []api.Node
	text := make([]int, 40)
	for n := range 40 {
		words = append(words, rep(n, n, char(0, 0)))
	}
	compiles(t, alt(words...), text, text[:39], text[:20], append(text[:20:20], 1))
	compiles(t, alt(append(words[:30:30], words[35:]...)...), text)
	for _, pattern := range []string{
		strings.Repeat("a", 60), strings.Repeat("a?", 60), strings.Repeat("a|", 60), "b" + strings.Repeat("|", 100) + "a", strings.Repeat("a?", 30) + strings.Repeat("a", 30), strings.Repeat("(a|b)", 40), strings.Repeat("(a|b|)?", 12),
	} {
		compiles(t, parsed(t, pattern), sample.Points(strings.Repeat("a", 60)), sample.Points(strings.Repeat("ab", 30)), sample.Points("b"), sample.Points(""))
	}
}

// TestLongPrograms: beside the greatest length.
func TestLongPrograms(t *testing.T) {
	over := [][]int{sample.Points(strings.Repeat("a", 63)), sample.Points(strings.Repeat("ab", 31)), sample.Points("b"), nil}
	for _, pattern := range []string{
		"(a{50}){39}a{49}", "(a{49}){40}a{36}b*", "((a?){50}){19}(a?){49}b", "((a|b){50}){9}(a|b){49}a{3}", "(a{50}){20}|(a{50}){19}a{47}", "((a{36}){18}a{17}){2,}", "((a{49}){0,39}){1}a{49}", "((a|){0,50}){9}(a|b){25}", "((a|b)*(b|a)?){0,50}", "(((a{2}){3}){4}b?){0,50}",
	} {
		compiles(t, parsed(t, pattern), over...)
	}
	compiles(t, cat(slices.Repeat([]api.Node{rep(0, 1, a)}, 999)...), over...)
	compiles(t, cat(slices.Repeat([]api.Node{a}, 1999)...), over...)
	compiles(t, alt(slices.Repeat([]api.Node{a}, 667)...), over...)
	compiles(t, alt(slices.Repeat([]api.Node{empty()}, 1000)...), over...)
	compiles(t, alt(append(slices.Repeat([]api.Node{b}, 666), a)...), over...)
	compiles(t, alt(sized(1000), sized(997)), over...)
	compiles(t, rep(0, 1, sized(1998)), over...)
	compiles(t, rep(1, -1, sized(998)), over...)
	compiles(t, sized(1999), over...)
}

// TestTwoTrees: an alternative of two that Parse answers, of which any may be one
// itself.
func TestTwoTrees(t *testing.T) {
	patterns := []string{"", "a", "b", "^", "$", "ab", "a|b", "a|", "||", "a*", "(ab)+", "(a|b){2}", "a{0}", "^a*$", `[^\d\D]`, "a?b?"}
	for _, first := range patterns {
		for _, second := range patterns {
			compiles(t, alt(parsed(t, first), parsed(t, second)), texts("ab", 3)...)
		}
	}
}

// TestCodePoints: over all kinds of them, and numbers that are none.
func TestCodePoints(t *testing.T) {
	all := []int{0, 1, 9, 10, 11, 13, ' ', '-', '0', '9', 'A', 'Z', '_', 'a', 'b', 'z', 127, 128, 0xe9, 0x7ff, 0x800, 0x20ac, 0xd7ff, 0xd800, 0xdfff, 0xe000, 0xfffd, 0xffff, 0x10000, 0x1f600, last}
	var over [][]int
	for _, r := range all {
		over = append(over, []int{r}, []int{'a', r}, []int{r, 'a', r}, []int{r, r, r, 0x20ac})
	}
	over = append(over, all)
	for _, pattern := range []string{
		".", `\d`, `\w`, `\s`, `\D`, `\W`, `\S`, "[^a]", `[^\d\D]`, "\u20ac", "[\u00e9-\u20ac]", "[\u0080-\U0010ffff]", "\U0001f600|\ufffd", "[^\ufffd]", "\x00", "[\x00-\x09]", `\n`,
		".*", `\w+`, `\W*`, "(.|\n)*", "[^a]a[^a]", "(\u20ac|[^\u20ac])*", ".{3}\u20ac", "^.$", "[a\u20ac\U0001f600]{1,2}", "[^\ue000]{10,20}",
	} {
		compiles(t, parsed(t, pattern), over...)
	}
	for _, n := range []api.Node{char(0, last), char(0, 0), char(last, last), char(0xd800, 0xdfff), char(0, 0xd7ff, 0xe000, last), char('a', 'a', 0x20ac, 0x20ac, last, last), never} {
		compiles(t, n, over...)
		compiles(t, rep(0, -1, n), over...)
		compiles(t, cat(n, n), over...)
	}
}
