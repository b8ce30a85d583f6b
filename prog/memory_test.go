package prog_test

import (
	"math"
	"slices"
	"testing"

	"reedbed/api"
	"reedbed/parse"
	"reedbed/prog"
	"reedbed/sample"
)

// P10.2

// patterns are ones in which each instruction is, and sets that stand there more
// than once.
func patterns() []string {
	return []string{
		`^(ab|[a-cx\d]*|(\D|.){2,3})[^\s]\n(|\w)(\w|\w|.)a*a*$`, "a", ".", `\d{3}`, `(\w|\W)+`, "[a-c]{2,4}", "([^a]{2}){3,}", "a|b", "ab", "a?", `[^\d\D]*`, "|", "^$", "", "()*", "(){50}",
	}
}

func TestAnswersAreNewMemory(t *testing.T) {
	for _, pattern := range patterns() {
		n := parsed(t, pattern)
		shown := parse.Show(n)
		first, _ := prog.Compile(n)
		second, _ := prog.Compile(n)
		want := sample.CopyProgram(second)
		sample.SpoilProgram(first)
		if !sample.SameProgram(second, want) {
			t.Errorf("%q: answers share memory: now %v; want %v", pattern, second, want)
		}
		if s := parse.Show(n); s != shown {
			t.Errorf("%q: the tree is in the answer: now %s", pattern, s)
		}
		if third, err := prog.Compile(n); err != api.OK || !sample.SameProgram(third, want) {
			t.Errorf("%q: an answer is kept: now %v; want %v", pattern, third, want)
		}
	}
}

func TestListsOfOneAnswer(t *testing.T) {
	for _, pattern := range patterns() {
		p, _ := prog.Compile(parsed(t, pattern))
		want := sample.CopyProgram(p)
		for i, in := range p {
			sample.SpoilBy(in.Set, api.Range{Lo: 7, Hi: 8})
			want[i].Set = slices.Repeat([]api.Range{{Lo: 7, Hi: 8}}, len(in.Set))
			if !sample.SameProgram(p, want) {
				t.Fatalf("%q: that of %d is another's too: now %v; want %v", pattern, i, p, want)
			}
		}
	}
}

// TestOneSetInManyPlaces: kids that share their sets, and a tree that shares its
// kids.
func TestOneSetInManyPlaces(t *testing.T) {
	kids := []api.Node{a, a, {Op: api.OpChar, Set: a.Set[:1]}}
	n := cat(alt(kids...), cat(kids...), rep(2, 3, alt(kids[:2]...)))
	p, _ := prog.Compile(n)
	want := sample.CopyProgram(p)
	for i, in := range p {
		if in.Op == api.InChar {
			in.Set[0].Lo = -i
			want[i].Set[0].Lo = -i
		}
	}
	if !sample.SameProgram(p, want) || a.Set[0].Lo != 'a' {
		t.Errorf("%v, %v; want %v", p, a, want)
	}
}

func TestWhatIsHandedInStays(t *testing.T) {
	trees := []api.Node{cat(alt(a, b), rep(2, 3, char('a', 'b', 5, 4))), alt(sized(2000), a), {}, {Op: api.OpCat, Set: sample.Ranges(1, 2), Min: 3}}
	for _, pattern := range patterns() {
		trees = append(trees, parsed(t, pattern))
	}
	for _, tree := range trees {
		want, wantErr := prog.Compile(tree)
		n, stays := sample.RoomyTree(tree)
		// The room behind lists isn't seen either.
		if p, err := prog.Compile(n); !sample.SameProgram(p, want) || err != wantErr || prog.Length(n) != prog.Length(tree) {
			t.Errorf("with room %v, %d; want %v", p, prog.Length(n), want)
		}
		if !stays() {
			t.Errorf("%s was changed", parse.Show(tree))
		}
	}
}

func TestProgramsHandedInStay(t *testing.T) {
	for _, pattern := range patterns() {
		p, _ := prog.Compile(parsed(t, pattern))
		part, stays := sample.RoomyProgram(p)
		if !prog.Right(part) || !stays() {
			t.Errorf("%q: now %v; want %v", pattern, part, p)
		}
		part[0] = api.Inst{Op: 5}
		if prog.Right(part) {
			t.Errorf("%q: right, though it isn't any more", pattern)
		}
	}
}

func TestNothingIsKept(t *testing.T) {
	n := cat(one('x'), rep(2, 2, one('y')))
	p, _ := prog.Compile(n)
	want := sample.CopyProgram(p)
	sample.SpoilTree(n)
	if !sample.SameProgram(p, want) {
		t.Errorf("with another tree it became %v; want %v", p, want)
	}
	m := cat(one('x'), rep(2, 2, one('y')))
	m.Kids[1].Max = 3
	if l := prog.Length(m); l != 5 {
		t.Errorf("length %d; want 5", l)
	}
	compiles(t, m, sample.Points("xyyy"))
	// An answer depends on nothing that was asked ahead.
	for _, ahead := range []api.Node{{Op: 9}, sized(2000), sized(longest + 1), alt(), rep(1, 2)} {
		prog.Compile(ahead)
		prog.Length(ahead)
		prog.Right([]api.Inst{{Op: 9}})
		measures(t, parsed(t, "a{3}b*"), 6)
		compiles(t, parsed(t, "a{3}b*"), sample.Points("aaabb"))
		isRight(t, true, api.Inst{})
	}
}

// TestTreesThatAreNone: of those that Parse never answers nothing is promised, but
// that the calls end, and what they answer is of its kind.
func TestTreesThatAreNone(t *testing.T) {
	numbers := []int{math.MinInt, math.MinInt + 1, -1 << 40, -2, -1, 0, 1, 2, 3, 1999, 2000, 1 << 32, 1 << 40, math.MaxInt - 1, math.MaxInt}
	kids := [][]api.Node{nil, {}, {a}, {empty()}, {a, b}, {a, empty(), end()}, {sized(longest)}, {empty(), sized(longest), a}, {{Op: 9}}, {{Op: -1, Kids: []api.Node{a}}}, {rep(0, -1)}, {rep(5, 5, empty(), empty())}, {alt()}, {cat(), alt(a)}}
	sample.EachOdd(numbers, kids, func(n api.Node) { ends(t, n) })
}

// ends asks for nothing but that a tree's calls end.
func ends(t *testing.T, n api.Node) {
	t.Helper()
	l := prog.Length(n)
	p, err := prog.Compile(n)
	if l < 0 || l > longest {
		t.Errorf("%s: length %d", parse.Show(n), l)
	}
	if (err != api.OK || len(p) != l+1 || !tidy(p)) && (err != api.ErrBig || len(p) != 0 || l < 2000) {
		t.Errorf("%s: of length %d: %d instructions, error %d", parse.Show(n), l, len(p), err)
	}
}
