package lit_test

import (
	"strings"
	"testing"

	"reedbed/api"
	"reedbed/lit"
	"reedbed/parse"
	"reedbed/sample"
)

// P12.3

// patterns are ones in which each Op is, whole and not.
func patterns() []string {
	return []string{
		"", "a", "^a$", "abc", "ab[c]{2}d", "ab|ac", "ab|ab", "a.|a[bc]", "(a\u00e9){3}", "(a|ab){2,3}", "(ab){2,}c", "\u00e9|\u00e8", "()*", "(a{50}){4}", "(a{50}){5}", `x(ab(c|c)(d|e)){4}[^\d]\n(|\w)*$`, tower("ab", times(10, "{50}")...),
	}
}

func TestTreesHandedInStay(t *testing.T) {
	trees := []api.Node{{}, {Op: 9, Set: sample.Ranges(1, 1), Kids: []api.Node{a}}, rep(-1, 300, a, b), alt(), cat(alt(a, cat(a, b)), rep(2, 2, char('c', 'b', 'd', 'd')))}
	for _, pattern := range patterns() {
		trees = append(trees, parsed(t, pattern))
	}
	for _, tree := range trees {
		want, whole := lit.Prefix(tree)
		n, stays := sample.RoomyTree(tree)
		// The room behind lists isn't seen either.
		for range 2 {
			if s, just := lit.Prefix(n); s != want || just != whole {
				t.Errorf("%s: with room %q, %t; want %q, %t", parse.Show(tree), s, just, want, whole)
			}
		}
		if !stays() {
			t.Errorf("%s was changed", parse.Show(tree))
		}
	}
}

// TestTreesAreNotKept: an answer stays, and the next one is of what the tree then
// is.
func TestTreesAreNotKept(t *testing.T) {
	for _, pattern := range patterns() {
		n := parsed(t, pattern)
		want, whole := told(n)
		s, just := lit.Prefix(n)
		sample.SpoilTree(n)
		if s != want || just != whole {
			t.Errorf("%q: it became %q, %t; want %q, %t", pattern, s, just, want, whole)
		}
	}
	n := cat(one('x'), rep(2, 2, one('y')))
	begins(t, n, "xyy", true)
	n.Kids[0].Set[0] = api.Range{Lo: 'z', Hi: 'z'}
	begins(t, n, "zyy", true)
	n.Kids[1].Max = 3
	begins(t, n, "zyy", false)
	n.Kids[1].Kids[0] = alt(a, cat(a, b))
	begins(t, n, "za", false)
	n.Kids[0].Set[0].Hi++
	begins(t, n, "", false)
}

// TestNothingIsKept: an answer depends on nothing that was asked ahead.
func TestNothingIsKept(t *testing.T) {
	for _, ahead := range patterns() {
		n := parsed(t, ahead)
		lit.Prefix(n)
		startAs(t, start{"ab(c|d)", "ab", false}, start{"ab{2}", "abb", true}, start{"", "", true})
	}
	for _, s := range []string{"", "a", "aab", "ab", "b", "bab", "abb", "\xff", strings.Repeat("a", 99)} {
		for _, text := range []string{"", "aab", "aabaab", "ba", "\xffab", strings.Repeat("a", 300)} {
			at, n := lit.Index(text, s, 1), lit.Count(text, s)
			finds(t, "aabaabab", "aab")
			finds(t, "ab", "abb")
			finds(t, "ab", "")
			if again, m := lit.Index(text, s, 1), lit.Count(text, s); again != at || m != n {
				t.Errorf("%q in %q: %d, %d; then %d, %d", s, text, at, n, again, m)
			}
		}
	}
}

// TestTextsStay: they are texts, which nothing changes, and none of their lists of
// octets is seen.
func TestTextsStay(t *testing.T) {
	whole := []byte("xaabaabx")
	text, s := string(whole[1:7]), string(whole[1:4])
	if at, n := lit.Index(text, s, 1), lit.Count(text, s); at != 3 || n != 2 {
		t.Errorf("%d, %d", at, n)
	}
	sample.Spoil(whole)
	if at, n := lit.Index(text, s, 1), lit.Count(text, s); at != 3 || n != 2 || text != "aabaab" || s != "aab" {
		t.Errorf("%d, %d: %q, %q", at, n, text, s)
	}
}
