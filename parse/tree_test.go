package parse_test

import (
	"math"
	"slices"
	"strings"
	"testing"

	"reedbed/api"
	"reedbed/parse"
	"reedbed/sample"
)

// P9.2

// otherOps are numbers that are no node's.
func otherOps() []int {
	return []int{math.MinInt, -1 << 32, -2, -1, 7, 8, 9, 1 << 32, 1<<32 + 1, 1<<32 + 6, math.MaxInt}
}

// laden is a node of that Op with something in each of its fields.
func laden(op int) api.Node {
	return api.Node{Op: op, Set: sample.Ranges(97, 99, 120, 120), Min: 2, Max: 5, Kids: []api.Node{a, begin()}}
}

func TestShow(t *testing.T) {
	for _, c := range []struct {
		n    api.Node
		want string
	}{
		{api.Node{}, "empty"},
		{empty(), "empty"},
		{begin(), "begin"},
		{end(), "end"},
		{char(), "char{}"},
		{api.Node{Op: api.OpChar, Set: []api.Range{}}, "char{}"},
		{one(97), "char{97}"},
		{one(0), "char{0}"},
		{char(97, 98), "char{97-98}"},
		{char(97, 99, 120, 120), "char{97-99 120}"},
		{char(1, 1, 3, 3, 5, 9), "char{1 3 5-9}"},
		{dot(), "char{0-9 11-1114111}"},
		{cat(), "cat()"},
		{cat(a), "cat(char{97})"},
		{cat(a, b), "cat(char{97},char{98})"},
		{cat(a, b, c), "cat(char{97},char{98},char{99})"},
		{alt(), "alt()"},
		{alt(a), "alt(char{97})"},
		{alt(a, empty()), "alt(char{97},empty)"},
		{alt(begin(), end(), a), "alt(begin,end,char{97})"},
		{rep(0, -1, a), "rep{0 -1}(char{97})"},
		{rep(2, 50, a), "rep{2 50}(char{97})"},
		{rep(0, 0), "rep{0 0}()"},
		{rep(1, 2, a, b), "rep{1 2}(char{97},char{98})"},
		{rep(1, 2, a, b, c), "rep{1 2}(char{97},char{98},char{99})"},
		{rep(1, -1, rep(0, 1, cat(a, alt(b, c)))), "rep{1 -1}(rep{0 1}(cat(char{97},alt(char{98},char{99}))))"},
		{cat(cat(cat()), alt(), cat(alt(), rep(1, 1))), "cat(cat(cat()),alt(),cat(alt(),rep{1 1}()))"},
		{cat(a, api.Node{Op: 9}, b), "cat(char{97},?,char{98})"},
		// Sets that are none are told as they stand there.
		{char(5, 4), "char{5-4}"},
		{char(9, 9, 1, 2, 2, 3), "char{9 1-2 2-3}"},
		{char(-3, -3), "char{-3}"},
		{char(-5, -3, -1, 0), "char{-5--3 -1-0}"},
		{char(math.MinInt, math.MaxInt), "char{-9223372036854775808-9223372036854775807}"},
		{char(math.MinInt, math.MinInt), "char{-9223372036854775808}"},
		{char(last+1, 1<<32), "char{1114112-4294967296}"},
		{rep(-3, 0), "rep{-3 0}()"},
		{rep(0, -7, a), "rep{0 -7}(char{97})"},
		{rep(-12, -34, a), "rep{-12 -34}(char{97})"},
		{rep(7, 3, a), "rep{7 3}(char{97})"},
		{rep(math.MinInt, math.MaxInt, a), "rep{-9223372036854775808 9223372036854775807}(char{97})"},
		{rep(1000000, 1<<40), "rep{1000000 1099511627776}()"},
		// Each tells what it has by its Op alone.
		{laden(api.OpEmpty), "empty"},
		{laden(api.OpChar), "char{97-99 120}"},
		{laden(api.OpBegin), "begin"},
		{laden(api.OpEnd), "end"},
		{laden(api.OpCat), "cat(char{97},begin)"},
		{laden(api.OpAlt), "alt(char{97},begin)"},
		{laden(api.OpRep), "rep{2 5}(char{97},begin)"},
	} {
		if s := parse.Show(c.n); s != c.want {
			t.Errorf("Show(%v) = %s; want %s", c.n, s, c.want)
		}
	}
	for _, op := range otherOps() {
		for _, n := range []api.Node{{Op: op}, laden(op)} {
			if s := parse.Show(n); s != "?" {
				t.Errorf("Show(%v) = %s", n, s)
			}
		}
	}
}

func TestShowOfWhatIsParsed(t *testing.T) {
	for _, c := range []struct{ s, want string }{
		{"", "empty"},
		{"a|b*", "alt(char{97},rep{0 -1}(char{98}))"},
		{"^(a|)b{2,3}$", "cat(begin,alt(char{97},empty),rep{2 3}(char{98}),end)"},
		{"[^\\d]", "char{0-47 58-1114111}"},
		{`[^\D\d]?`, "rep{0 1}(char{})"},
	} {
		if n, err := parse.Parse(c.s); err != api.OK || parse.Show(n) != c.want {
			t.Errorf("%q: %s, %d; want %s", c.s, parse.Show(n), err, c.want)
		}
	}
}

// variants are a node, and ones that differ from it and from each other in one
// field.
func variants() []api.Node {
	n := laden(api.OpRep)
	all := []api.Node{n}
	for _, op := range []int{api.OpEmpty, api.OpCat, api.OpAlt, -1, 7, 1<<32 + 6} {
		other := n
		other.Op = op
		all = append(all, other)
	}
	for _, k := range []int{-1, 0, 1, 3, 1<<32 + 2, math.MinInt} {
		other := n
		other.Min = k
		all = append(all, other)
		other = n
		other.Max = k
		all = append(all, other)
	}
	for _, s := range [][]api.Range{
		nil, sample.Ranges(97, 99), sample.Ranges(97, 99, 120, 121), sample.Ranges(97, 99, 119, 120), sample.Ranges(96, 99, 120, 120), sample.Ranges(97, 98, 120, 120),
		sample.Ranges(120, 120, 97, 99), sample.Ranges(97, 99, 120, 120, 120, 120), sample.Ranges(97, 98, 99, 99, 120, 120), sample.Ranges(97, 99, 120, 1<<32+120),
	} {
		other := n
		other.Set = s
		all = append(all, other)
	}
	for _, kids := range [][]api.Node{
		nil, {a}, {begin()}, {begin(), a}, {a, end()}, {b, begin()}, {a, begin(), empty()}, {a, begin(), begin()}, {a, a}, {cat(a, begin())}, {cat(a), begin()}, {a, cat(begin())}, {a, rep(0, 0, begin())}, {a, laden(api.OpBegin)},
	} {
		other := n
		other.Kids = kids
		all = append(all, other)
	}
	return all
}

// within puts a node below others.
func within(n api.Node) []api.Node {
	return []api.Node{n, cat(n), alt(a, n, b), rep(0, 1, cat(a, n)), {Op: 9, Kids: []api.Node{n}}, {Kids: []api.Node{{Kids: []api.Node{n}}}}}
}

func TestSame(t *testing.T) {
	for i, n := range variants() {
		for k, m := range variants() {
			ns, ms := within(n), within(m)
			for j := range ns {
				if same := parse.Same(ns[j], ms[j]); same != (i == k) {
					t.Errorf("Same(%v, %v) = %t", ns[j], ms[j], same)
				}
			}
			if parse.Same(n, ms[1]) || parse.Same(ns[1], m) {
				t.Errorf("%v, %v: Same is true of one below another", n, m)
			}
		}
	}
}

func TestSameOfNilAndEmpty(t *testing.T) {
	for op := -1; op <= 7; op++ {
		all := []api.Node{
			{Op: op}, {Op: op, Set: []api.Range{}}, {Op: op, Kids: []api.Node{}}, {Op: op, Set: []api.Range{}, Kids: []api.Node{}}, {Op: op, Set: sample.Ranges(1, 2)[:0], Kids: []api.Node{a}[:0]},
		}
		for _, n := range all {
			for _, m := range all {
				if !parse.Same(n, m) || !parse.Same(cat(a, n), cat(a, m)) {
					t.Errorf("Same(%#v, %#v) is false", n, m)
				}
			}
			if parse.Same(n, api.Node{Op: op, Set: sample.Ranges(0, 0)}) || parse.Same(n, api.Node{Op: op, Kids: []api.Node{{}}}) {
				t.Errorf("Same of %#v and one that has something is true", n)
			}
		}
	}
}

func TestSameOfWhatIsParsed(t *testing.T) {
	for _, c := range []struct {
		s, t string
		same bool
	}{
		{"a(b|c)*", "a(b|c)*", true},
		{"a(b|c)*", "a(b|d)*", false},
		{"a(b|c)*", "a(b|c)+", false},
		{"(ab)", "ab", true},
		{"(ab)c", "abc", false},
		{"[a-c]", "[cba]", true},
		{"a", "[a]", true},
		{"a{1}", "a", false},
		{"a{0,1}", "a?", true},
		{"a{0,}", "a*", true},
		{"a|b", "b|a", false},
		{"", "()", true},
		{"^", "$", false},
		{`\d`, "[0-9]", true},
		{`[^\D\d]`, "", false},
	} {
		n, _ := parse.Parse(c.s)
		m, _ := parse.Parse(c.t)
		if same := parse.Same(n, m); same != c.same {
			t.Errorf("Same of %q and %q is %t", c.s, c.t, same)
		}
	}
}

func TestSize(t *testing.T) {
	for _, c := range []struct {
		n    api.Node
		want int
	}{
		{api.Node{}, 1},
		{api.Node{Op: 9}, 1},
		{char(1, 2, 4, 5), 1},
		{rep(5, 50), 1},
		{cat(), 1},
		{cat(a), 2},
		{cat(a, b), 3},
		{alt(a, b, c, d), 5},
		{rep(0, -1, a), 2},
		{rep(7, 9, a, b), 3},
		{cat(a, rep(0, -1, alt(b, c))), 6},
		{cat(cat(a, b), cat(c), cat()), 7},
		{laden(api.OpEmpty), 3},
		{laden(api.OpChar), 3},
		{laden(-1), 3},
		{alt(laden(9), laden(api.OpEnd)), 7},
	} {
		if n := parse.Size(c.n); n != c.want {
			t.Errorf("Size(%v) = %d; want %d", c.n, n, c.want)
		}
	}
	for s, want := range map[string]int{"": 1, "a": 1, "ab": 3, "(((a)))": 1, "a(b|c)*": 6, "a|b|": 4, strings.Repeat("a*", 100): 201, strings.Repeat("|", 200): 202} {
		if n, _ := parse.Parse(s); parse.Size(n) != want {
			t.Errorf("Size of %q is %d; want %d", s, parse.Size(n), want)
		}
	}
}

func TestWideTrees(t *testing.T) {
	const wide = 100000
	n, m := cat(slices.Repeat([]api.Node{a}, wide)...), cat(slices.Repeat([]api.Node{a}, wide)...)
	if size := parse.Size(n); size != wide+1 {
		t.Errorf("Size is %d", size)
	}
	if want := "cat(char{97}" + strings.Repeat(",char{97}", wide-1) + ")"; parse.Show(n) != want {
		t.Error("Show is wrong")
	}
	if !parse.Same(n, m) {
		t.Error("Same is false")
	}
	m.Kids[wide-1] = b
	if parse.Same(n, m) {
		t.Error("Same is true, though the last kid differs")
	}
	set := char(slices.Repeat([]int{1, 1, 3, 4}, wide)...)
	if want := "char{1" + strings.Repeat(" 3-4 1", wide-1) + " 3-4}"; parse.Show(set) != want || parse.Size(set) != 1 {
		t.Error("a wide set is wrong")
	}
}

func TestDeepTrees(t *testing.T) {
	const deep = 60000
	tower := func(n api.Node) api.Node {
		for range deep {
			n = rep(0, 1, n)
		}
		return n
	}
	n := tower(a)
	if size := parse.Size(n); size != deep+1 {
		t.Errorf("Size is %d", size)
	}
	if want := strings.Repeat("rep{0 1}(", deep) + "char{97}" + strings.Repeat(")", deep); parse.Show(n) != want {
		t.Error("Show is wrong")
	}
	if !parse.Same(n, tower(a)) || parse.Same(n, tower(b)) || parse.Same(n, n.Kids[0]) {
		t.Error("Same is wrong")
	}
}

// P9.3

// rich is a pattern in which all is that has lists.
const rich = `^(ab|[a-cx\d]*|(\D|.){2,3})[^\s]\n(|\w)(\w|\w|.)a*a*$`

func TestAnswersAreNewMemory(t *testing.T) {
	for _, s := range []string{rich, "a", ".", `\d`, `\D`, `\w`, `\W`, `\s`, `\S`, "[a]", "[^a]", `[\w]`, `[^\D]`, "a|b", "ab", "a*", "(((ab)))", "|", "^$", ""} {
		first, _ := parse.Parse(s)
		second, _ := parse.Parse(s)
		want := parse.Show(second)
		sample.SpoilTree(first)
		if got := parse.Show(second); got != want {
			t.Errorf("%q: answers share memory: now %s; want %s", s, got, want)
		}
		if third, err := parse.Parse(s); err != api.OK || parse.Show(third) != want {
			t.Errorf("%q: an answer is kept: now %s; want %s", s, parse.Show(third), want)
		}
	}
}

func TestListsOfOneAnswer(t *testing.T) {
	n, _ := parse.Parse(rich)
	sets, kids := sample.TreeLists(n)
	for i := range sets {
		// Each list but the one that is spoilt stays.
		for k, others := range sets {
			before := slices.Clone(others)
			saved := slices.Clone(sets[i][:cap(sets[i])])
			sample.SpoilBy(sets[i], api.Range{Lo: 7, Hi: 8})
			if i != k && !slices.Equal(others, before) {
				t.Errorf("sets %d and %d share memory", i, k)
			}
			copy(sets[i][:cap(sets[i])], saved)
		}
		for k, others := range kids {
			before := slices.Clone(others)
			saved := slices.Clone(kids[i][:cap(kids[i])])
			sample.SpoilBy(kids[i], api.Node{Op: 9, Min: 9})
			if i != k && !slices.EqualFunc(others, before, sample.SameButLists) {
				t.Errorf("lists of kids %d and %d share memory", i, k)
			}
			copy(kids[i][:cap(kids[i])], saved)
		}
	}
}

func TestWhatIsHandedInStays(t *testing.T) {
	bare, _ := parse.Parse(rich)
	for _, tree := range []api.Node{bare, laden(api.OpRep), laden(9), cat(laden(api.OpEmpty), char(5, 4, 1, 2), rep(-1, -2)), {}} {
		n, stays := sample.RoomyTree(tree)
		// The room behind lists isn't seen either.
		if parse.Show(n) != parse.Show(tree) || parse.Size(n) != parse.Size(tree) || !parse.Same(n, tree) || !parse.Same(tree, n) || !parse.Same(n, n) {
			t.Errorf("with room %s, %d; want %s", parse.Show(n), parse.Size(n), parse.Show(tree))
		}
		if !stays() {
			t.Errorf("%v was changed", tree)
		}
	}
}

func TestNothingIsKept(t *testing.T) {
	n, m := cat(one('x'), one('y')), cat(one('x'), one('y'))
	show := parse.Show(n)
	parse.Same(n, m)
	parse.Size(n)
	n.Kids[0].Set[0].Lo = 1
	n.Kids = append(n.Kids, end())
	if show != "cat(char{120},char{121})" {
		t.Errorf("what was shown became %s", show)
	}
	if s := parse.Show(n); s != "cat(char{1-120},char{121},end)" {
		t.Errorf("Show is %s", s)
	}
	if parse.Same(n, m) || parse.Size(n) != 4 {
		t.Errorf("Same is %t, Size %d", parse.Same(n, m), parse.Size(n))
	}
	// An answer depends on nothing that was asked ahead.
	for _, ahead := range []string{"((((((((((a", "[^a", "a{1,", "(a|b)", `\`, "\xff", strings.Repeat("a", 201)} {
		parse.Parse(ahead)
		is(t, "a|b*", alt(a, rep(0, -1, b)))
		areNone(t, "a**")
	}
}
