package parse_test

import (
	"fmt"
	"slices"
	"strings"
	"testing"

	"reedbed/api"
	"reedbed/parse"
	"reedbed/sample"
)

// word is a text that the document's words make, with its trees, one behind the
// other: one, where it isn't a row of some.
type word struct {
	s     string
	trees []api.Node
}

// made are words by how long they are.
type made func(n int) []word

// grammar makes all texts of an alphabet that are patterns, from the shorter ones
// on, where Parse goes the other way.
type grammar struct {
	letters                           string
	patterns, alternatives, pieces    made
	alternativeRows, pieceRows, atoms made
	points, parts, partRows, counts   made
}

// once keeps what was made of each length, and leaves out what isn't of the
// alphabet.
func (g *grammar) once(make made) made {
	kept := map[int][]word{}
	return func(n int) []word {
		if n < 0 {
			return nil
		}
		if _, ok := kept[n]; !ok {
			var words []word
			for _, w := range make(n) {
				if strings.Trim(w.s, g.letters) == "" {
					words = append(words, w)
				}
			}
			kept[n] = words
		}
		return kept[n]
	}
}

// only are those of the words that are n octets long.
func only(n int, words []word) []word {
	return slices.DeleteFunc(words, func(w word) bool { return len(w.s) != n })
}

// both are all of one behind the other, n octets long.
func both(n int, first, second made, join func(a, b word) (word, bool)) []word {
	var words []word
	for k := range n + 1 {
		for _, a := range first(k) {
			for _, b := range second(n - k) {
				if w, ok := join(a, b); ok {
					words = append(words, w)
				}
			}
		}
	}
	return words
}

// rows are one or more, with a text between.
func (g *grammar) rows(of made, between string) made {
	var rows made
	rows = g.once(func(n int) []word {
		words := slices.Clone(of(n))
		for k := range n + 1 {
			if k+len(between) == 0 {
				continue
			}
			for _, a := range of(k) {
				for _, b := range rows(n - k - len(between)) {
					words = append(words, word{a.s + between + b.s, slices.Concat(a.trees, b.trees)})
				}
			}
		}
		return words
	})
	return rows
}

// joined are rows as one tree each.
func joined(op int, rows []word) []word {
	var words []word
	for _, w := range rows {
		if len(w.trees) > 1 {
			w.trees = []api.Node{{Op: op, Kids: w.trees}}
		}
		words = append(words, w)
	}
	return words
}

func newGrammar(letters string) *grammar {
	g := &grammar{letters: letters}
	g.points = g.once(func(n int) []word { return only(n, pointWords()) })
	g.parts = g.once(g.partWords)
	g.partRows = g.rows(g.parts, "")
	g.counts = g.once(func(n int) []word { return only(n, countWords()) })
	g.atoms = g.once(g.atomWords)
	g.pieces = g.once(g.pieceWords)
	g.pieceRows = g.rows(g.pieces, "")
	g.alternatives = g.once(func(n int) []word {
		if n == 0 {
			return []word{{"", []api.Node{empty()}}}
		}
		return joined(api.OpCat, g.pieceRows(n))
	})
	g.alternativeRows = g.rows(g.alternatives, "|")
	g.patterns = g.once(func(n int) []word { return joined(api.OpAlt, g.alternativeRows(n)) })
	return g
}

// escapeWords are those with a backslash that stand for themselves.
func escapeWords() []word {
	var words []word
	for octet, r := range alone() {
		words = append(words, word{"\\" + string(octet), []api.Node{one(r)}})
	}
	return words
}

func namedWords() []word {
	var words []word
	for octet, n := range named() {
		words = append(words, word{"\\" + string(octet), []api.Node{n}})
	}
	return words
}

// pointWords are the points of a class.
func pointWords() []word {
	words := escapeWords()
	for r := range 128 {
		if s := string(rune(r)); !strings.Contains(`[]^-\`, s) {
			words = append(words, word{s, []api.Node{one(r)}})
		}
	}
	return words
}

func (g *grammar) partWords(n int) []word {
	words := slices.Concat(g.points(n), only(n, namedWords()))
	ends := both(n-1, g.points, g.points, func(a, b word) (word, bool) {
		from, to := a.trees[0].Set[0].Lo, b.trees[0].Set[0].Lo
		return word{a.s + "-" + b.s, []api.Node{char(from, to)}}, from <= to
	})
	return append(words, ends...)
}

// countWords are the counts, each with a tree without a kid.
func countWords() []word {
	words := []word{{"*", []api.Node{rep(0, -1)}}, {"+", []api.Node{rep(1, -1)}}, {"?", []api.Node{rep(0, 1)}}}
	numbers := map[string]int{}
	for n := range 51 {
		numbers[fmt.Sprint(n)], numbers[fmt.Sprintf("%02d", n)] = n, n
	}
	for n, least := range numbers {
		words = append(words, word{"{" + n + "}", []api.Node{rep(least, least)}}, word{"{" + n + ",}", []api.Node{rep(least, -1)}})
		for m, most := range numbers {
			if least <= most {
				words = append(words, word{"{" + n + "," + m + "}", []api.Node{rep(least, most)}})
			}
		}
	}
	return words
}

// whole is the node of all numbers that parts of a class have, by the numbers one
// by one up to the last one of 7 bits: none of the alphabets' ends lies above.
func whole(parts []api.Node) api.Node {
	has := func(r int) bool {
		return slices.ContainsFunc(parts, func(n api.Node) bool {
			return slices.ContainsFunc(n.Set, func(part api.Range) bool { return part.Lo <= r && r <= part.Hi })
		})
	}
	var ends []int
	for r := range 129 {
		if has(r) && (r == 0 || !has(r-1)) {
			ends = append(ends, r)
		}
		if has(r) && !has(r+1) {
			ends = append(ends, r)
		}
	}
	if len(ends)%2 != 0 {
		ends = append(ends, last)
	}
	return char(ends...)
}

func (g *grammar) atomWords(n int) []word {
	words := only(n, slices.Concat(escapeWords(), namedWords(), []word{{".", []api.Node{dot()}}}))
	for r := range 128 {
		if s := string(rune(r)); n == 1 && !strings.Contains(signs, s) {
			words = append(words, word{s, []api.Node{one(r)}})
		}
	}
	for _, w := range g.patterns(n - 2) {
		words = append(words, word{"(" + w.s + ")", w.trees})
	}
	for _, w := range g.partRows(n - 2) {
		words = append(words, word{"[" + w.s + "]", []api.Node{whole(w.trees)}})
	}
	for _, w := range g.partRows(n - 3) {
		words = append(words, word{"[^" + w.s + "]", []api.Node{others(whole(w.trees))}})
	}
	return words
}

func (g *grammar) pieceWords(n int) []word {
	words := slices.Concat(g.atoms(n), only(n, []word{{"^", []api.Node{begin()}}, {"$", []api.Node{end()}}}))
	counted := both(n, g.atoms, g.counts, func(a, b word) (word, bool) {
		return word{a.s + b.s, []api.Node{rep(b.trees[0].Min, b.trees[0].Max, a.trees...)}}, true
	})
	return append(words, counted...)
}

// TestAllShortTexts: of all texts of an alphabet up to a length those that the
// grammar makes are patterns, each with the tree that it makes, and no others.
func TestAllShortTexts(t *testing.T) {
	for _, c := range []struct {
		letters string
		most    int
	}{
		{signs + "-,1adn", 4},
		{"ab|()*^", 6},
		{"a|()?", 7},
		{"(a$.\\+|)", 6},
		{"a{},05", 7},
		{"a{}1,[])", 6},
		{"[]^-a\\d", 6},
		{"[]^-ab\\", 6},
		{"[]-\\nr\n\r", 6},
		{"[]\\DdSs^", 6},
	} {
		g := newGrammar(c.letters)
		patterns := map[string]api.Node{}
		for n := range c.most + 1 {
			for _, w := range g.patterns(n) {
				if _, ok := patterns[w.s]; ok {
					t.Fatalf("%q is made in two ways", w.s)
				}
				patterns[w.s] = w.trees[0]
			}
		}
		sample.Each([]byte(c.letters), c.most, func(b []byte) {
			s := string(b)
			n, err := parse.Parse(s)
			want, ok := patterns[s]
			if (err == api.OK) != ok || !ok && err != api.ErrPattern || !equal(n, want) {
				t.Fatalf("Parse(%q) = %v, %d; want %v, a pattern: %t", s, n, err, want, ok)
			}
		})
	}
}
