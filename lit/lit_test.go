package lit_test

import (
	"math/bits"
	"strings"
	"testing"
	"unicode/utf8"

	"reedbed/api"
	"reedbed/lit"
	"reedbed/match"
	"reedbed/parse"
	"reedbed/prog"
	"reedbed/sample"
)

const last = 0x10ffff

// The trees, by hand, and the patterns of counts of counts.
var (
	empty, begin, end = sample.Empty, sample.Begin, sample.End
	char, one         = sample.Char, sample.One
	cat, alt, rep     = sample.Cat, sample.Alt, sample.Rep
	grown             = sample.Grown
	tower, times      = sample.Tower, sample.Times
)

// a, b are the trees of these letters; never is one that matches nothing.
var a, b, never = one('a'), one('b'), char()

// parsed is a pattern's tree.
func parsed(t *testing.T, pattern string) api.Node {
	t.Helper()
	n, err := parse.Parse(pattern)
	if err != api.OK {
		t.Fatalf("%q is no pattern: %d", pattern, err)
	}
	return n
}

// isPoint: is a number a code point?
func isPoint(r int) bool {
	return r >= 0 && r <= last && utf8.ValidRune(rune(r))
}

// cut is a text as it is told: whole, if it isn't too long.
func cut(s string, whole bool) (string, bool) {
	if len(s) > 200 {
		return s[:200], false
	}
	return s, whole
}

// told is what a tree begins with, and whether it is just that, by the document's
// words.
func told(n api.Node) (string, bool) {
	var texts []string
	var wholes []bool
	all := true
	for _, kid := range n.Kids {
		s, whole := told(kid)
		texts, wholes, all = append(texts, s), append(wholes, whole), all && whole
	}
	switch n.Op {
	case api.OpEmpty:
		return "", true
	case api.OpChar:
		if len(n.Set) == 1 && n.Set[0].Lo == n.Set[0].Hi && isPoint(n.Set[0].Lo) {
			return string(rune(n.Set[0].Lo)), true
		}
	case api.OpCat:
		for i, whole := range wholes {
			if !whole {
				return cut(strings.Join(texts[:i+1], ""), false)
			}
		}
		return cut(strings.Join(texts, ""), true)
	case api.OpAlt:
		s := texts[0]
		for _, other := range texts {
			all = all && other == texts[0]
			for !strings.HasPrefix(other, s) {
				s = s[:len(s)-1]
			}
		}
		return s, all
	case api.OpRep:
		if all {
			return cut(strings.Repeat(texts[0], n.Min), n.Max == n.Min)
		}
		return strings.Repeat(texts[0], min(n.Min, 1)), false
	}
	return "", false
}

// begins asks what a tree begins with.
func begins(t *testing.T, n api.Node, want string, whole bool) {
	t.Helper()
	if s, just := lit.Prefix(n); s != want || just != whole {
		t.Errorf("%.200s: %q, %t; want %q, %t", parse.Show(n), s, just, want, whole)
	}
	if s, just := told(n); s != want || just != whole {
		t.Errorf("%.200s: the tests' own is %q, %t; want %q, %t", parse.Show(n), s, just, want, whole)
	}
}

// start is a pattern, what it begins with, and whether it is just that.
type start struct {
	pattern, want string
	whole         bool
}

func startAs(t *testing.T, starts ...start) {
	t.Helper()
	for _, x := range starts {
		begins(t, parsed(t, x.pattern), x.want, x.whole)
	}
}

// holds asks for what a tree begins with, by the document's words, and that each
// of its matches in these texts, of few code points each, begins with it; that one
// that is whole matches it wherever it stands, and nothing else.
func holds(t *testing.T, n api.Node, texts ...string) {
	t.Helper()
	s, whole := lit.Prefix(n)
	if want, just := told(n); s != want || whole != just {
		t.Fatalf("%s: %q, %t; want %q, %t", parse.Show(n), s, whole, want, just)
	}
	p, err := prog.Compile(n)
	if err != api.OK {
		t.Fatalf("%s has no program: %d", parse.Show(n), err)
	}
	for _, text := range texts {
		places, points := match.Places(text), sample.Points(text)
		for k, at := range places {
			ends := sample.ProgramEnds(p, points, k)
			if stands := strings.HasPrefix(text[at:], s); whole && stands != (ends != 0) || !stands && ends != 0 {
				t.Fatalf("%s: %q, %t, in %q from %d: %b", parse.Show(n), s, whole, text, at, ends)
			}
			for ; ends != 0; ends &= ends - 1 {
				hit := text[at:places[bits.TrailingZeros64(uint64(ends))]]
				if !strings.HasPrefix(hit, s) || whole && hit != s {
					t.Fatalf("%s: %q, %t, but it matches %q in %q", parse.Show(n), s, whole, hit, text)
				}
			}
		}
	}
}

// texts are all of those letters, up to so many.
func texts(letters string, most int) []string {
	var all []string
	sample.Each([]rune(letters), most, func(s []rune) { all = append(all, string(s)) })
	return all
}
