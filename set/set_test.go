package set_test

import (
	"math"
	"slices"
	"testing"

	"reedbed/api"
	"reedbed/sample"
	"reedbed/set"
)

const last = 0x10ffff

// outside are numbers that are in no set.
func outside() []int {
	return []int{
		math.MinInt, math.MinInt + 1, math.MinInt32, -1<<32 + 65, -last, -65, -2, -1,
		last + 1, last + 2, last + 66, 0x200041, math.MaxInt32, 1 << 32, 1<<32 + 65, math.MaxInt - 1, math.MaxInt,
	}
}

// in: is r in the set made of these, by the document's words?
func in(s []api.Range, r int) bool {
	if r < 0 || r > last {
		return false
	}
	for _, part := range s {
		if part.Lo <= r && r <= part.Hi {
			return true
		}
	}
	return false
}

// all are all numbers that may be in a set.
func all() []int {
	return upTo(0, last)
}

// near are those near the least and the greatest one. The ranges of ends don't
// tell apart what lies between.
func near() []int {
	return slices.Concat(upTo(0, 7), upTo(last-7, last))
}

func upTo(from, to int) []int {
	var numbers []int
	for r := from; r <= to; r++ {
		numbers = append(numbers, r)
	}
	return numbers
}

// plain is the set of those of the numbers that are in, gone through one by one.
// What lies between two of them is as the first one is.
func plain(numbers []int, is func(r int) bool) []api.Range {
	var s []api.Range
	open := false
	for i, r := range numbers {
		if is(r) && !open {
			s = append(s, api.Range{Lo: r})
		}
		if is(r) {
			s[len(s)-1].Hi = r
			if i+1 < len(numbers) {
				s[len(s)-1].Hi = numbers[i+1] - 1
			}
		}
		open = is(r)
	}
	return s
}

// each hands over all lists of ranges of these ends, up to a length. The list is
// lent.
func each(ends []int, most int, do func(s []api.Range)) {
	var of []api.Range
	sample.Each(ends, 2, func(two []int) {
		if len(two) == 2 {
			of = append(of, sample.Ranges(two...)...)
		}
	})
	sample.Each(of, most, do)
}

// few are ends of ranges at and beside the ends of what may be in a set.
func few() []int {
	return []int{math.MinInt, -1, 0, 2, 3, last - 1, last, last + 1, math.MaxInt}
}

// orders hands over a list in all its orders.
func orders(s []api.Range, do func(s []api.Range)) {
	var numbers []int
	for i := range s {
		numbers = append(numbers, i)
	}
	sample.Each(numbers, len(s), func(list []int) {
		var other []api.Range
		for k, i := range list {
			if slices.Contains(list[:k], i) {
				return
			}
			other = append(other, s[i])
		}
		if len(other) == len(s) {
			do(other)
		}
	})
}

// count is how many numbers a set has.
func count(s []api.Range) int {
	n := 0
	for _, r := range s {
		n += r.Hi - r.Lo + 1
	}
	return n
}

// made holds what is told of a list of ranges against the set that is made of it.
func made(t *testing.T, rs, want []api.Range) {
	t.Helper()
	if s := set.Of(rs...); !slices.Equal(s, want) || !set.Right(s) {
		t.Fatalf("Of(%x) = %x, Right %t; want %x", rs, s, set.Right(s), want)
	}
	if right := slices.Equal(rs, want); set.Right(rs) != right {
		t.Fatalf("Right(%x) = %t", rs, set.Right(rs))
	}
	if n := set.Count(rs); n != count(want) {
		t.Fatalf("Count(%x) = %d; want %d", rs, n, count(want))
	}
	only := 0
	if count(want) == 1 {
		only = want[0].Lo
	}
	if r, ok := set.Only(rs); r != only || ok != (count(want) == 1) {
		t.Fatalf("Only(%x) = %x, %t; the set is %x", rs, r, ok, want)
	}
}

// same holds a set that was answered against the one that is asked for.
func same(t *testing.T, call string, rs, got, want []api.Range) {
	t.Helper()
	if !slices.Equal(got, want) || !set.Right(got) {
		t.Fatalf("%s of %x = %x; want %x", call, rs, got, want)
	}
}

// making is a list of ranges, and the set made of it.
type making struct {
	name     string
	in, want []api.Range
}

// makings are those of the document's edges.
func makings() []making {
	return []making{
		{"no ranges", nil, nil},
		{"the example", sample.Ranges(97, 99, 98, 101, 102, 102), sample.Ranges(97, 102)},
		{"one number", sample.Ranges(65, 65), sample.Ranges(65, 65)},
		{"the least number", sample.Ranges(0, 0), sample.Ranges(0, 0)},
		{"the greatest number", sample.Ranges(last, last), sample.Ranges(last, last)},
		{"all numbers", sample.Ranges(0, last), sample.Ranges(0, last)},
		{"what is no code point", sample.Ranges(0xd800, 0xdfff), sample.Ranges(0xd800, 0xdfff)},

		{"Lo above Hi", sample.Ranges(5, 4), nil},
		{"Lo far above Hi", sample.Ranges(last, 0), nil},
		{"Lo above Hi at the ends of an int", sample.Ranges(math.MaxInt, math.MinInt), nil},
		{"Lo above Hi, among others", sample.Ranges(1, 2, 20, 4, 30, 31), sample.Ranges(1, 2, 30, 31)},
		{"Lo above Hi across the ends", sample.Ranges(5, -5, last+5, last-5), nil},

		{"below 0", sample.Ranges(-5, -1), nil},
		{"below 0, one number", sample.Ranges(-1, -1), nil},
		{"far below 0", sample.Ranges(math.MinInt, math.MinInt), nil},
		{"partly below 0", sample.Ranges(-5, 0), sample.Ranges(0, 0)},
		{"partly far below 0", sample.Ranges(math.MinInt, 7), sample.Ranges(0, 7)},
		{"above the greatest", sample.Ranges(last+1, last+5), nil},
		{"far above the greatest", sample.Ranges(math.MaxInt, math.MaxInt), nil},
		{"partly above the greatest", sample.Ranges(last, last+1), sample.Ranges(last, last)},
		{"partly far above the greatest", sample.Ranges(7, math.MaxInt), sample.Ranges(7, last)},
		{"beyond both", sample.Ranges(math.MinInt, math.MaxInt), sample.Ranges(0, last)},
		{"beyond 32 bits", sample.Ranges(1<<32+5, 1<<32+9, -1<<32, -1<<32+9), nil},
		{"beyond, side by side", sample.Ranges(math.MinInt, -1, last+1, math.MaxInt), nil},
		{"all but one, from beyond", sample.Ranges(math.MinInt, 64, 66, math.MaxInt), sample.Ranges(0, 64, 66, last)},

		{"one within another", sample.Ranges(1, 9, 3, 4), sample.Ranges(1, 9)},
		{"one within another, from its beginning", sample.Ranges(1, 9, 1, 4), sample.Ranges(1, 9)},
		{"one within another, to its end", sample.Ranges(1, 9, 4, 9), sample.Ranges(1, 9)},
		{"the same twice", sample.Ranges(1, 9, 1, 9), sample.Ranges(1, 9)},
		{"the same number twice", sample.Ranges(7, 7, 7, 7), sample.Ranges(7, 7)},
		{"overlapping", sample.Ranges(1, 5, 3, 9), sample.Ranges(1, 9)},
		{"overlapping in one number", sample.Ranges(1, 5, 5, 9), sample.Ranges(1, 9)},
		{"touching", sample.Ranges(1, 5, 6, 9), sample.Ranges(1, 9)},
		{"one number apart", sample.Ranges(1, 5, 7, 9), sample.Ranges(1, 5, 7, 9)},
		{"two numbers apart", sample.Ranges(1, 5, 8, 9), sample.Ranges(1, 5, 8, 9)},
		{"single ones that touch", sample.Ranges(1, 1, 2, 2, 3, 3), sample.Ranges(1, 3)},
		{"single ones apart", sample.Ranges(1, 1, 3, 3, 5, 5), sample.Ranges(1, 1, 3, 3, 5, 5)},
		{"joined by one between", sample.Ranges(1, 5, 7, 9, 6, 6), sample.Ranges(1, 9)},
		{"joined by one across", sample.Ranges(1, 5, 10, 20, 30, 40, 4, 30), sample.Ranges(1, 40)},
		{"one around all", sample.Ranges(5, 6, 8, 9, 11, 12, 0, 20), sample.Ranges(0, 20)},
		{"short ones behind a long one", sample.Ranges(0, 100, 3, 4, 50, 60, 102, 103), sample.Ranges(0, 100, 102, 103)},
		{"the ends", sample.Ranges(last, last, 0, 0), sample.Ranges(0, 0, last, last)},
		{"all in parts", sample.Ranges(0x8000, last, 0, 99, 100, 0x7fff), sample.Ranges(0, last)},
	}
}

// P8.1

func TestEdges(t *testing.T) {
	for _, c := range makings() {
		t.Run(c.name, func(t *testing.T) {
			orders(c.in, func(rs []api.Range) {
				made(t, rs, c.want)
				made(t, slices.Concat(rs, rs), c.want)
				made(t, slices.Concat(rs, sample.Ranges(9, 8, -4, -2, last+2, last+3)), c.want)
			})
		})
	}
}

func TestNoRanges(t *testing.T) {
	made(t, []api.Range{}, nil)
	if s := set.Of(); len(s) != 0 {
		t.Errorf("Of() = %x", s)
	}
	for _, r := range append(outside(), 0, 65, last) {
		if set.Has(nil, r) || set.Has([]api.Range{}, r) {
			t.Errorf("Has(none, %x) is true", r)
		}
	}
}

func TestManyRanges(t *testing.T) {
	numbers := near()
	each(few(), 2, func(rs []api.Range) {
		made(t, rs, plain(numbers, func(r int) bool { return in(rs, r) }))
	})
	each([]int{-1, 0, 1, 3, 4, last - 1, last + 1}, 3, func(rs []api.Range) {
		made(t, rs, plain(numbers, func(r int) bool { return in(rs, r) }))
	})
}

func TestManyRangesOfALongList(t *testing.T) {
	var rs, want []api.Range
	for i := range 5000 {
		// Each number of 4 by itself, from the last one on, and each twice.
		n := 4 * (4999 - i)
		rs = append(rs, sample.Ranges(n, n, n+1, n+1, n, n)...)
		want = append(want, sample.Ranges(4*i, 4*i+1)...)
	}
	made(t, rs, want)
	made(t, append(rs, sample.Ranges(1, 4*4999)...), sample.Ranges(0, 4*4999+1))
}

func TestRight(t *testing.T) {
	for _, s := range [][]api.Range{
		nil, {}, sample.Ranges(0, 0), sample.Ranges(last, last), sample.Ranges(0, last), sample.Ranges(5, 5, 7, 7),
		sample.Ranges(0, 0, 2, 2), sample.Ranges(0, 4, 6, 9, 11, last), sample.Ranges(last-2, last-2, last, last),
	} {
		if !set.Right(s) {
			t.Errorf("Right(%x) is false", s)
		}
	}
	for _, c := range []struct {
		name string
		s    []api.Range
	}{
		{"below 0", sample.Ranges(-1, 3)},
		{"wholly below 0", sample.Ranges(-3, -1)},
		{"far below 0", sample.Ranges(math.MinInt, 3, 5, 6)},
		{"above the greatest", sample.Ranges(5, last+1)},
		{"wholly above the greatest", sample.Ranges(last+1, last+2)},
		{"far above the greatest", sample.Ranges(1, 2, 5, math.MaxInt)},
		{"far above the greatest, with one behind", sample.Ranges(1, math.MaxInt, 5, 6)},
		{"just above the greatest, with one behind", sample.Ranges(1, math.MaxInt-2, math.MaxInt, math.MaxInt)},
		{"Lo above Hi", sample.Ranges(5, 4)},
		{"Lo above Hi ahead", sample.Ranges(1, 0, 5, 6)},
		{"Lo above Hi in the middle", sample.Ranges(1, 2, 5, 4, 9, 9)},
		{"Lo above Hi at the end", sample.Ranges(1, 2, 5, 4)},
		{"not rising", sample.Ranges(9, 9, 1, 2)},
		{"not rising at the end", sample.Ranges(1, 2, 9, 9, 4, 5)},
		{"overlapping", sample.Ranges(1, 5, 3, 9)},
		{"overlapping in one number", sample.Ranges(1, 5, 5, 9)},
		{"one within the other", sample.Ranges(1, 9, 3, 4)},
		{"the same twice", sample.Ranges(3, 4, 3, 4)},
		{"the same number twice", sample.Ranges(7, 7, 7, 7)},
		{"touching", sample.Ranges(1, 2, 3, 4)},
		{"touching, single ones", sample.Ranges(0, 0, 1, 1)},
		{"touching at the end", sample.Ranges(1, 2, 4, 5, 6, 9)},
	} {
		if set.Right(c.s) {
			t.Errorf("%s: Right(%x) is true", c.name, c.s)
		}
	}
}

func TestHasAtItsEnds(t *testing.T) {
	for _, c := range slices.Concat(makings(), []making{
		{"far apart", sample.Ranges(10, 20, 30, 40), sample.Ranges(10, 20, 30, 40)},
		{"no set", sample.Ranges(30, 40, 15, 35, 10, 20, 17, 18), sample.Ranges(10, 40)},
	}) {
		for _, part := range slices.Concat(c.in, c.want) {
			for _, end := range []int{part.Lo, part.Hi} {
				for _, r := range []int{end - 2, end - 1, end, end + 1, end + 2} {
					if set.Has(c.in, r) != in(c.want, r) {
						t.Errorf("%s: Has(%x, %x) is %t", c.name, c.in, r, set.Has(c.in, r))
					}
				}
			}
		}
	}
}

func TestHasOfMany(t *testing.T) {
	numbers := append(near(), outside()...)
	each(few(), 2, func(rs []api.Range) {
		for _, r := range numbers {
			if set.Has(rs, r) != in(rs, r) {
				t.Fatalf("Has(%x, %x) is %t", rs, r, set.Has(rs, r))
			}
		}
	})
}

func TestHasOfAllNumbers(t *testing.T) {
	for _, rs := range [][]api.Range{
		sample.Ranges(0, last), sample.Ranges(math.MinInt, math.MaxInt), sample.Ranges(5, 4), sample.Ranges(0x80, 0xd7ff, 0xd801, 0x10000, 0x9000, 0x9001), sample.Ranges(last, 3),
	} {
		for _, r := range all() {
			if set.Has(rs, r) != in(rs, r) {
				t.Fatalf("Has(%x, %x) is %t", rs, r, set.Has(rs, r))
			}
		}
		for _, r := range outside() {
			if set.Has(rs, r) || set.Has(append(sample.Ranges(r, r, r-1, r+1), rs...), r) {
				t.Errorf("Has(%x, %x) is true", rs, r)
			}
		}
	}
}

func TestCountAndOnly(t *testing.T) {
	for _, c := range []struct {
		s    []api.Range
		n    int
		only int
		is   bool
	}{
		{nil, 0, 0, false},
		{sample.Ranges(5, 4), 0, 0, false},
		{sample.Ranges(-1, -1), 0, 0, false},
		{sample.Ranges(last+1, last+1), 0, 0, false},
		{sample.Ranges(0, 0), 1, 0, true},
		{sample.Ranges(last, last), 1, last, true},
		{sample.Ranges(-5, 0), 1, 0, true},
		{sample.Ranges(last, math.MaxInt), 1, last, true},
		{sample.Ranges(5, 5, 5, 5), 1, 5, true},
		{sample.Ranges(5, 5, 9, 8, -1, -1), 1, 5, true},
		{sample.Ranges(5, 6), 2, 0, false},
		{sample.Ranges(5, 5, 6, 6), 2, 0, false},
		{sample.Ranges(5, 5, 7, 7), 2, 0, false},
		{sample.Ranges(7, 7, 5, 5, 7, 7), 2, 0, false},
		{sample.Ranges(10, 20, 30, 40), 22, 0, false},
		{sample.Ranges(30, 40, 10, 20, 15, 35), 31, 0, false},
		{sample.Ranges(0, last), 0x110000, 0, false},
		{sample.Ranges(math.MinInt, math.MaxInt, math.MinInt, math.MaxInt), 0x110000, 0, false},
		{sample.Ranges(1, last), 0x10ffff, 0, false},
	} {
		if n := set.Count(c.s); n != c.n {
			t.Errorf("Count(%x) = %d; want %d", c.s, n, c.n)
		}
		if r, ok := set.Only(c.s); r != c.only || ok != c.is {
			t.Errorf("Only(%x) = %d, %t; want %d, %t", c.s, r, ok, c.only, c.is)
		}
	}
}

// P8.2

func TestNot(t *testing.T) {
	for _, c := range []struct{ s, want []api.Range }{
		{nil, sample.Ranges(0, last)},
		{sample.Ranges(0, last), nil},
		{sample.Ranges(math.MinInt, math.MaxInt), nil},
		{sample.Ranges(5, 4, -9, -1, last+1, last+9), sample.Ranges(0, last)},
		{sample.Ranges(0, 0), sample.Ranges(1, last)},
		{sample.Ranges(1, 1), sample.Ranges(0, 0, 2, last)},
		{sample.Ranges(last, last), sample.Ranges(0, last-1)},
		{sample.Ranges(last-1, last-1), sample.Ranges(0, last-2, last, last)},
		{sample.Ranges(0, 9, 11, last), sample.Ranges(10, 10)},
		{sample.Ranges(10, 20, 30, 40), sample.Ranges(0, 9, 21, 29, 41, last)},
		{sample.Ranges(30, 40, 10, 20, 18, 25, 41, 41), sample.Ranges(0, 9, 26, 29, 42, last)},
		{sample.Ranges(0, 0, last, last), sample.Ranges(1, last-1)},
		{sample.Ranges(0xd800, 0xdfff), sample.Ranges(0, 0xd7ff, 0xe000, last)},
	} {
		same(t, "Not", c.s, set.Not(c.s), c.want)
	}
}

func TestNotOfMany(t *testing.T) {
	numbers := near()
	each(few(), 2, func(s []api.Range) {
		others := set.Not(s)
		same(t, "Not", s, others, plain(numbers, func(r int) bool { return !in(s, r) }))
		same(t, "Not of Not", s, set.Not(others), set.Of(s...))
	})
}

func TestOrAndAnd(t *testing.T) {
	all := sample.Ranges(0, last)
	for _, c := range []struct{ s, t, or, and []api.Range }{
		{nil, nil, nil, nil},
		{nil, all, all, nil},
		{all, all, all, all},
		{sample.Ranges(math.MinInt, math.MaxInt), sample.Ranges(5, 5), all, sample.Ranges(5, 5)},
		{sample.Ranges(5, 4), sample.Ranges(-9, -1, last+1, last+9), nil, nil},
		{sample.Ranges(10, 20, 30, 40), sample.Ranges(15, 35), sample.Ranges(10, 40), sample.Ranges(15, 20, 30, 35)},
		{sample.Ranges(10, 20), sample.Ranges(20, 30), sample.Ranges(10, 30), sample.Ranges(20, 20)},
		{sample.Ranges(10, 20), sample.Ranges(21, 30), sample.Ranges(10, 30), nil},
		{sample.Ranges(10, 20), sample.Ranges(22, 30), sample.Ranges(10, 20, 22, 30), nil},
		{sample.Ranges(10, 40), sample.Ranges(20, 30), sample.Ranges(10, 40), sample.Ranges(20, 30)},
		{sample.Ranges(0, 0, 2, 2, 4, 4), sample.Ranges(1, 1, 3, 3), sample.Ranges(0, 4), nil},
		{sample.Ranges(0, 1, 3, 4), sample.Ranges(1, 3), sample.Ranges(0, 4), sample.Ranges(1, 1, 3, 3)},
		{sample.Ranges(9, 9, 1, 3, 2, 5), sample.Ranges(7, 9, 4, 4), sample.Ranges(1, 5, 7, 9), sample.Ranges(4, 4, 9, 9)},
		{sample.Ranges(5, 5), sample.Ranges(5, 5), sample.Ranges(5, 5), sample.Ranges(5, 5)},
		{sample.Ranges(-5, 5), sample.Ranges(-9, 0, last, last+9), sample.Ranges(0, 5, last, last), sample.Ranges(0, 0)},
		{sample.Ranges(0, 0xffff), sample.Ranges(0xd800, last), all, sample.Ranges(0xd800, 0xffff)},
	} {
		both := slices.Concat(c.s, c.t)
		for range 2 {
			same(t, "Or", both, set.Or(c.s, c.t), c.or)
			same(t, "And", both, set.And(c.s, c.t), c.and)
			c.s, c.t = c.t, c.s
		}
	}
}

func TestTwiceOver(t *testing.T) {
	all := sample.Ranges(0, last)
	each(few(), 2, func(s []api.Range) {
		is, others := set.Of(s...), set.Not(s)
		same(t, "Of", s, set.Of(is...), is)
		same(t, "Or with itself", s, set.Or(s, s), is)
		same(t, "And with itself", s, set.And(s, s), is)
		same(t, "Or with none", s, set.Or(s, nil), is)
		same(t, "Or with all", s, set.Or(s, all), all)
		same(t, "And with none", s, set.And(s, nil), nil)
		same(t, "And with all", s, set.And(s, all), is)
		same(t, "Or with all others", s, set.Or(s, others), all)
		same(t, "And with all others", s, set.And(s, others), nil)
	})
}

func TestOrAndAndOfMany(t *testing.T) {
	numbers := near()
	var lists [][]api.Range
	each([]int{-1, 0, 2, 3, last + 1}, 2, func(s []api.Range) {
		lists = append(lists, slices.Clone(s))
	})
	for i, s := range lists {
		// Not all of them with all others, which are too many.
		for k := i % 7; k < len(lists); k += 7 {
			u := lists[k]
			both := slices.Concat(s, u)
			same(t, "Or", both, set.Or(s, u), plain(numbers, func(r int) bool { return in(s, r) || in(u, r) }))
			same(t, "And", both, set.And(s, u), plain(numbers, func(r int) bool { return in(s, r) && in(u, r) }))
		}
	}
}

// P8.3

// letters are those that have a set, with it.
func letters() map[byte][]api.Range {
	return map[byte][]api.Range{
		'd': sample.Ranges(0x30, 0x39),
		'w': sample.Ranges(0x30, 0x39, 0x41, 0x5a, 0x5f, 0x5f, 0x61, 0x7a),
		's': sample.Ranges(9, 13, 0x20, 0x20),
		'D': sample.Ranges(0, 0x2f, 0x3a, last),
		'W': sample.Ranges(0, 0x2f, 0x3a, 0x40, 0x5b, 0x5e, 0x60, 0x60, 0x7b, last),
		'S': sample.Ranges(0, 8, 14, 0x1f, 0x21, last),
	}
}

func TestNamed(t *testing.T) {
	for c := range 256 {
		s, ok := set.Named(byte(c))
		want, is := letters()[byte(c)]
		if !slices.Equal(s, want) || ok != is || !set.Right(s) {
			t.Errorf("Named(%q) = %x, %t; want %x, %t", byte(c), s, ok, want, is)
		}
	}
}

func TestNamedAtTheirEnds(t *testing.T) {
	for _, c := range []struct {
		letter, other byte
		has, hasnt    string
	}{
		{'d', 'D', "0123456789", "/:Aaz_ \t\n\x00\x7f"},
		{'w', 'W', "059AMZ_amz", "/:@[^`{ -.\t\n\x00\x7f"},
		{'s', 'S', " \t\n\v\f\r", "\b\x0e\x1f!09az_\x00\x7f"},
	} {
		s, _ := set.Named(c.letter)
		others, _ := set.Named(c.other)
		for _, r := range []byte(c.has) {
			if !set.Has(s, int(r)) || set.Has(others, int(r)) {
				t.Errorf("%q: %c %t, %c %t", r, c.letter, set.Has(s, int(r)), c.other, set.Has(others, int(r)))
			}
		}
		for _, r := range append([]int{-1, 0x85, 0xa0, 0xe9, 0x660, 0x2028, 0xd800, 0xff10, last, last + 1}, codes(c.hasnt)...) {
			if set.Has(s, r) || set.Has(others, r) != (r >= 0 && r <= last) {
				t.Errorf("%x: %c %t, %c %t", r, c.letter, set.Has(s, r), c.other, set.Has(others, r))
			}
		}
		same(t, "Not", s, set.Not(s), others)
		same(t, "Not", others, set.Not(others), s)
	}
}

// codes are a text's octets as numbers.
func codes(text string) []int {
	var numbers []int
	for _, c := range []byte(text) {
		numbers = append(numbers, int(c))
	}
	return numbers
}

// P8.4

// asks are the calls that answer sets.
func asks() map[string]func(s, t []api.Range) []api.Range {
	m := map[string]func(s, t []api.Range) []api.Range{
		"Of":  func(s, _ []api.Range) []api.Range { return set.Of(s...) },
		"Not": func(s, _ []api.Range) []api.Range { return set.Not(s) },
		"Or":  set.Or,
		"And": set.And,
	}
	for c := range letters() {
		m["Named "+string(c)] = func(_, _ []api.Range) []api.Range {
			s, _ := set.Named(c)
			return s
		}
	}
	return m
}

// two are lists to ask with: sets, and such as aren't.
func two() [][2][]api.Range {
	return [][2][]api.Range{
		{sample.Ranges(10, 20, 30, 40), sample.Ranges(15, 35)},
		{sample.Ranges(10, 20, 30, 40), sample.Ranges(10, 20, 30, 40)},
		{sample.Ranges(30, 40, 10, 20, 9, 3), sample.Ranges(35, 35, 12, 15, 14, 16)},
		{sample.Ranges(10, 20), nil},
		{sample.Ranges(0, last), sample.Ranges(7, 7)},
		{sample.Ranges(-5, 7, 9, math.MaxInt), sample.Ranges(math.MinInt, math.MaxInt)},
		{nil, nil},
	}
}

func stray() api.Range { return api.Range{Lo: 1, Hi: 0xffff} }

func TestAnswersAreNewMemory(t *testing.T) {
	for name, ask := range asks() {
		for _, lists := range two() {
			s, u := slices.Clone(lists[0]), slices.Clone(lists[1])
			first, second := ask(s, u), ask(s, u)
			want := slices.Clone(first)
			sample.SpoilBy(first, stray())
			if !slices.Equal(s, lists[0]) || !slices.Equal(u, lists[1]) {
				t.Errorf("%s: the answer shares with what was handed in: now %x, %x", name, s, u)
			}
			if !slices.Equal(second, want) || !slices.Equal(ask(s, u), want) {
				t.Errorf("%s: answers share memory", name)
			}
			sample.SpoilBy(s, stray())
			sample.SpoilBy(u, stray())
			if !slices.Equal(second, want) {
				t.Errorf("%s: what was handed in is kept: now %x; want %x", name, second, want)
			}
		}
	}
}

func TestWhatIsHandedInStays(t *testing.T) {
	for _, lists := range two() {
		whole, s := sample.WithRoomOf(lists[0], stray())
		wholes, u := sample.WithRoomOf(lists[1], stray())
		before, befores := slices.Clone(whole), slices.Clone(wholes)
		for name, ask := range asks() {
			got := ask(s, u)
			want := ask(lists[0], lists[1])
			if !slices.Equal(got, want) {
				t.Errorf("%s: with room %x; want %x", name, got, want)
			}
			sample.SpoilBy(got, stray())
			ask(u, s)
		}
		set.Right(s)
		set.Has(s, 12)
		set.Count(s)
		set.Only(s)
		if !slices.Equal(whole, before) || !slices.Equal(wholes, befores) {
			t.Errorf("%x became %x; %x became %x", before, whole, befores, wholes)
		}
	}
}

// TestPartsOfOneList: both lists may be parts of one, the second one in the
// first one's room.
func TestPartsOfOneList(t *testing.T) {
	whole := sample.Ranges(30, 40, 10, 20, 15, 32, 50, 60)
	before := slices.Clone(whole)
	for n := range len(whole) + 1 {
		s, u := whole[:n], whole[n:]
		same(t, "Or", whole, set.Or(s, u), sample.Ranges(10, 40, 50, 60))
		want := plain(all(), func(r int) bool { return in(before[:n], r) && in(before[n:], r) })
		same(t, "And", whole, set.And(s, u), want)
		same(t, "Not", s, set.Not(s), set.Not(before[:n]))
		if !slices.Equal(whole, before) {
			t.Fatalf("%x became %x", before, whole)
		}
	}
}
