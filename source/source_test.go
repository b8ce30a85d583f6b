package source_test

import (
	"math"
	"slices"
	"strconv"
	"strings"
	"testing"

	"reedbed/api"
	"reedbed/cuts"
	"reedbed/sample"
	"reedbed/source"
)

// step is one Next, and what it is to answer.
type step struct {
	most int
	want string
	err  api.Errno
}

// follow asks s, which has n octets, step by step, and holds Given and Left
// against what it was to give.
func follow(t *testing.T, s *source.Source, n int, steps ...step) {
	t.Helper()
	given := s.Given()
	for i, c := range steps {
		b, err := s.Next(c.most)
		if string(b) != c.want || err != c.err {
			t.Fatalf("step %d: Next(%d) = %q, %v; want %q, %v", i, c.most, b, err, c.want, c.err)
		}
		given += len(c.want)
		if s.Given() != given || s.Left() != n-given {
			t.Fatalf("behind step %d: Given %d, Left %d; want %d, %d", i, s.Given(), s.Left(), given, n-given)
		}
	}
}

// plain is a source by the document's words: its octets, at which of them a
// piece ends, where it fails, and how many it has given.
type plain struct {
	b    []byte
	ends map[int]int
	fail int
	at   int
}

func reading(b []byte, fail int, sizes []int) *plain {
	p := &plain{b: b, fail: fail, ends: map[int]int{}}
	for i, end := range cuts.Ends(cuts.Cut(b, sizes...)...) {
		p.ends[end] = i + 1
	}
	return p
}

// next goes on octet by octet.
func (p *plain) next(most int) (string, api.Errno) {
	switch {
	case most < 1:
		return "", api.ErrArg
	case p.fail >= 0 && p.at >= p.fail:
		return "", api.ErrSource
	case p.at == len(p.b):
		return "", api.ErrNone
	}
	from := p.at
	for {
		p.at++
		if p.at-from == most || p.at == p.fail || p.ends[p.at] > 0 {
			return string(p.b[from:p.at]), api.OK
		}
	}
}

// sameSource asks a source and the plain reading with those mosts, over and
// over. Each round that has one from 1 on gives an octet: the last two are
// behind the end.
func sameSource(t *testing.T, b []byte, fail int, sizes, mosts []int) {
	t.Helper()
	s, p := source.New(b, fail, sizes...), reading(b, fail, sizes)
	if s.Given() != 0 || s.Left() != len(b) {
		t.Fatalf("New(%d octets, %d, %d): Given %d, Left %d", len(b), fail, sizes, s.Given(), s.Left())
	}
	for i := range (len(b) + 2) * len(mosts) {
		most := mosts[i%len(mosts)]
		got, err := s.Next(most)
		want, wrong := p.next(most)
		if string(got) != want || err != wrong {
			t.Fatalf("New(%d octets, %d, %d), step %d: Next(%d) = %q, %v; want %q, %v", len(b), fail, sizes, i, most, got, err, want, wrong)
		}
		if s.Given() != p.at || s.Left() != len(b)-p.at {
			t.Fatalf("New(%d octets, %d, %d), step %d: Given %d, Left %d; want %d, %d", len(b), fail, sizes, i, s.Given(), s.Left(), p.at, len(b)-p.at)
		}
	}
}

// P5.1

func TestNextOfTheExamples(t *testing.T) {
	const none, fails = api.ErrNone, api.ErrSource
	for _, c := range []struct {
		b     string
		fail  int
		sizes []int
		steps []step
	}{
		{"abcde", 4, []int{2}, []step{{9, "ab", 0}, {1, "c", 0}, {9, "d", 0}, {9, "", fails}, {1, "", fails}}},
		{"abcde", -1, nil, []step{{9, "abcde", 0}, {9, "", none}}},
		{"abcde", -1, nil, []step{{2, "ab", 0}, {2, "cd", 0}, {2, "e", 0}, {2, "", none}}},
		{"abcde", -1, nil, []step{{5, "abcde", 0}, {5, "", none}}},
		{"abcde", -1, []int{}, []step{{4, "abcd", 0}, {9, "e", 0}, {1, "", none}}},
		// Fewer sizes than pieces.
		{"abcdefgh", -1, []int{1, 2}, []step{{9, "a", 0}, {9, "bc", 0}, {9, "d", 0}, {9, "ef", 0}, {9, "g", 0}, {9, "h", 0}, {9, "", none}}},
		{"abcdefg", -1, []int{3}, []step{{9, "abc", 0}, {9, "def", 0}, {9, "g", 0}, {9, "", none}}},
		// More sizes than pieces.
		{"abc", -1, []int{2, 9, 1}, []step{{9, "ab", 0}, {9, "c", 0}, {9, "", none}}},
		// Most less than, just, and more than what is left of the piece.
		{"abcdefg", -1, []int{4}, []step{{1, "a", 0}, {2, "bc", 0}, {2, "d", 0}, {3, "efg", 0}, {3, "", none}}},
		{"abcdefg", -1, []int{4}, []step{{3, "abc", 0}, {1, "d", 0}, {4, "efg", 0}, {4, "", none}}},
		{"abcdefgh", -1, []int{4}, []step{{4, "abcd", 0}, {5, "efgh", 0}, {1, "", none}}},
		{"abcdef", -1, []int{4, 1}, []step{{2, "ab", 0}, {math.MaxInt, "cd", 0}, {math.MaxInt, "e", 0}, {math.MaxInt, "f", 0}, {math.MaxInt, "", none}}},
		// Sizes below 1.
		{"abcd", -1, []int{0, -7, 2}, []step{{9, "a", 0}, {9, "b", 0}, {9, "cd", 0}, {9, "", none}}},
		{"abc", -1, []int{math.MinInt}, []step{{9, "a", 0}, {9, "b", 0}, {9, "c", 0}, {9, "", none}}},
		// Fail inside a piece, at its end, at the octets' end, behind it.
		{"abcdef", 0, []int{3}, []step{{9, "", fails}, {1, "", fails}}},
		{"abcdef", 1, []int{3}, []step{{9, "a", 0}, {9, "", fails}}},
		{"abcdef", 2, []int{3}, []step{{1, "a", 0}, {9, "b", 0}, {9, "", fails}}},
		{"abcdef", 3, []int{3}, []step{{9, "abc", 0}, {9, "", fails}}},
		{"abcdef", 4, []int{3}, []step{{9, "abc", 0}, {9, "d", 0}, {9, "", fails}}},
		{"abcdef", 6, []int{3}, []step{{9, "abc", 0}, {9, "def", 0}, {9, "", fails}, {9, "", fails}}},
		{"abcdef", 7, []int{3}, []step{{9, "abc", 0}, {9, "def", 0}, {9, "", none}, {9, "", none}}},
		{"abcdef", 4, nil, []step{{3, "abc", 0}, {3, "d", 0}, {3, "", fails}}},
		{"abcdef", 4, nil, []step{{9, "abcd", 0}, {9, "", fails}}},
		{"abcdef", 6, nil, []step{{9, "abcdef", 0}, {9, "", fails}}},
		{"abcdef", 7, nil, []step{{9, "abcdef", 0}, {9, "", none}}},
		{"abcdef", math.MaxInt, []int{5}, []step{{9, "abcde", 0}, {9, "f", 0}, {9, "", none}}},
		{"abcdef", -2, []int{5}, []step{{9, "abcde", 0}, {9, "f", 0}, {9, "", none}}},
		{"abcdef", math.MinInt, []int{5}, []step{{9, "abcde", 0}, {9, "f", 0}, {9, "", none}}},
	} {
		t.Run(c.b+strconv.Itoa(c.fail), func(t *testing.T) {
			follow(t, source.New([]byte(c.b), c.fail, c.sizes...), len(c.b), c.steps...)
		})
	}
}

func TestNextOfNoOctets(t *testing.T) {
	for _, b := range [][]byte{nil, {}, []byte("abc")[:0]} {
		for _, sizes := range [][]int{nil, {}, {1}, {0, 9}} {
			for fail, err := range map[int]api.Errno{
				math.MinInt: api.ErrNone, -1: api.ErrNone, 0: api.ErrSource, 1: api.ErrNone, math.MaxInt: api.ErrNone,
			} {
				s := source.New(b, fail, sizes...)
				follow(t, s, 0, step{1, "", err}, step{0, "", api.ErrArg}, step{math.MaxInt, "", err}, step{1, "", err})
			}
		}
	}
}

func TestMostBelowOne(t *testing.T) {
	for _, most := range []int{0, -1, -4096, math.MinInt32, math.MinInt} {
		no := step{most, "", api.ErrArg}
		// Ahead of all, inside a piece, at its end, behind all; ErrArg is told
		// ahead of the other errors.
		follow(t, source.New([]byte("abcd"), -1, 3), 4,
			no, no, step{2, "ab", 0}, no, step{9, "c", 0}, no, step{9, "d", 0}, no, step{9, "", api.ErrNone}, no, step{9, "", api.ErrNone})
		follow(t, source.New([]byte("abcd"), 2, 3), 4,
			no, step{9, "ab", 0}, no, step{9, "", api.ErrSource}, no, step{9, "", api.ErrSource})
		follow(t, source.New([]byte("abcd"), 0), 4, no, step{9, "", api.ErrSource}, no)
		follow(t, source.New([]byte("abcd"), 4), 4, no, step{9, "abcd", 0}, no, step{9, "", api.ErrSource}, no)
	}
}

func TestNothingBesideAnError(t *testing.T) {
	s := source.New([]byte("abc"), 1)
	for _, most := range []int{0, 9, 9, -1, 9} {
		if b, err := s.Next(most); err != api.OK && len(b) != 0 {
			t.Errorf("Next(%d) = %q beside %v", most, b, err)
		}
	}
}

func TestWithoutSizes(t *testing.T) {
	for _, n := range []int{2, 4095, 4096, 4097, 65536, 1 << 20} {
		whole := string(sample.Octets(n))
		for _, most := range []int{n, n + 1, math.MaxInt} {
			follow(t, source.New([]byte(whole), -1), n, step{most, whole, 0}, step{most, "", api.ErrNone})
			follow(t, source.New([]byte(whole), n), n, step{most, whole, 0}, step{most, "", api.ErrSource})
			follow(t, source.New([]byte(whole), n-1), n, step{most, whole[:n-1], 0}, step{most, "", api.ErrSource})
		}
		follow(t, source.New([]byte(whole), -1), n, step{n - 1, whole[:n-1], 0}, step{n, whole[n-1:], 0}, step{n, "", api.ErrNone})
	}
}

func TestAtTheEndsOfSizes(t *testing.T) {
	const n = 8193
	b := sample.Octets(n)
	for _, size := range sample.Sizes() {
		for _, sizes := range [][]int{{size}, {size, 4097}, {3, size}} {
			for _, fail := range []int{-1, 0, 1, 4095, 4096, 4097, n - 1, n, n + 1} {
				sameSource(t, b, fail, sizes, []int{math.MaxInt})
			}
			sameSource(t, b, -1, sizes, []int{4095, 1, 4097, 2})
			sameSource(t, b, 5000, sizes, []int{4096, 0, 3000})
		}
	}
}

func TestFailAtAnyNumber(t *testing.T) {
	b := sample.Octets(20)
	for _, fail := range slices.Concat(sample.Strays(), sample.Sizes(), []int{19, 20, 21, 1<<32 + 19, -1 << 32}) {
		for _, sizes := range [][]int{nil, {1}, {7}, {20}, {21}} {
			sameSource(t, b, fail, sizes, []int{math.MaxInt})
			sameSource(t, b, fail, sizes, []int{3, 1 << 32})
		}
	}
}

// P5.1 and P5.3

func TestHoweverItIsAsked(t *testing.T) {
	whole := sample.Octets(7)
	for n := range len(whole) + 1 {
		sample.Each([]int{0, 1, 2, 3}, 2, func(sizes []int) {
			sample.Each([]int{-1, 1, 2, 4, 9}, 3, func(mosts []int) {
				for fail := -1; len(mosts) > 0 && fail <= n+1; fail++ {
					sameSource(t, whole[:n], fail, sizes, mosts)
				}
			})
		})
	}
}

func TestAllOctetsComeInOrder(t *testing.T) {
	b := sample.Octets(30000)
	for _, sizes := range [][]int{nil, {1}, {4096}, {5000}, {1, 100, 0, 4095}, cuts.Spread(len(b), 700)} {
		for _, most := range []int{1, 2, 699, 4096, 4097, math.MaxInt} {
			for _, fail := range []int{-1, 1, 4096, 12345, len(b) - 1, len(b)} {
				goThrough(t, b, fail, sizes, most)
			}
		}
	}
}

// goThrough takes all that a source gives, and asks on behind it.
func goThrough(t *testing.T, b []byte, fail int, sizes []int, most int) {
	t.Helper()
	want, end := b, api.ErrNone
	if fail >= 0 {
		want, end = b[:fail], api.ErrSource
	}
	s := source.New(b, fail, sizes...)
	var all []byte
	got, err := s.Next(most)
	for ; err == api.OK; got, err = s.Next(most) {
		if len(got) < 1 || len(got) > most {
			t.Fatalf("Next(%d) gave %d octets", most, len(got))
		}
		all = append(all, got...)
	}
	if string(all) != string(want) || err != end {
		t.Fatalf("New(%d octets, %d, %d sizes) by %d gave %d octets, then %v; want %d, then %v", len(b), fail, len(sizes), most, len(all), err, len(want), end)
	}
	for range 100 {
		if got, err = s.Next(most); len(got) != 0 || err != end {
			t.Fatalf("behind its end Next(%d) = %q, %v; want nothing, %v", most, got, err, end)
		}
	}
	if s.Given() != len(want) || s.Left() != len(b)-len(want) {
		t.Fatalf("behind its end: Given %d, Left %d; want %d, %d", s.Given(), s.Left(), len(want), len(b)-len(want))
	}
}

// P5.2

// sinkSame puts texts into a sink that refuses from one on.
func sinkSame(t *testing.T, refuse int, texts []string) {
	t.Helper()
	k := source.Open(refuse)
	var want []string
	for i := 0; ; i++ {
		if got := k.Got(); !slices.Equal(got, want) || k.Asked() != i {
			t.Fatalf("Open(%d) behind %d texts: Got %q, Asked %d; want %q, %d", refuse, i, got, k.Asked(), want, i)
		}
		if i == len(texts) {
			return
		}
		err := api.ErrSink
		if refuse < 0 || len(want) < refuse {
			err, want = api.OK, append(want, texts[i])
		}
		if e := k.Put(texts[i]); e != err {
			t.Fatalf("Open(%d), text %d: Put(%q) = %v; want %v", refuse, i, texts[i], e, err)
		}
	}
}

func TestSinkOfTheExamples(t *testing.T) {
	for _, c := range []struct {
		refuse int
		texts  []string
		errs   []api.Errno
		got    []string
	}{
		{-1, nil, nil, nil},
		{0, nil, nil, nil},
		{-1, []string{"a", "", "a", "b"}, []api.Errno{0, 0, 0, 0}, []string{"a", "", "a", "b"}},
		{0, []string{"a", "", "b"}, []api.Errno{api.ErrSink, api.ErrSink, api.ErrSink}, nil},
		{1, []string{"", "", "b"}, []api.Errno{0, api.ErrSink, api.ErrSink}, []string{""}},
		{2, []string{"a", "b", "c", "", "d"}, []api.Errno{0, 0, api.ErrSink, api.ErrSink, api.ErrSink}, []string{"a", "b"}},
		{3, []string{"a", "b", "c"}, []api.Errno{0, 0, 0}, []string{"a", "b", "c"}},
		{math.MinInt, []string{"a"}, []api.Errno{0}, []string{"a"}},
		{math.MaxInt, []string{"a"}, []api.Errno{0}, []string{"a"}},
		{-1, []string{"a\x00\n\xff\xfe", "\u20ac"}, []api.Errno{0, 0}, []string{"a\x00\n\xff\xfe", "\u20ac"}},
	} {
		k := source.Open(c.refuse)
		for i, s := range c.texts {
			if err := k.Put(s); err != c.errs[i] {
				t.Errorf("Open(%d), text %d: Put(%q) = %v; want %v", c.refuse, i, s, err, c.errs[i])
			}
		}
		if got := k.Got(); !slices.Equal(got, c.got) || k.Asked() != len(c.texts) {
			t.Errorf("Open(%d): Got %q, Asked %d; want %q, %d", c.refuse, got, k.Asked(), c.got, len(c.texts))
		}
	}
}

func TestSinkAtEveryStep(t *testing.T) {
	all := []string{"a", "", "bc", "", "\xff", "a", strings.Repeat("x", 5000)}
	for n := range len(all) + 1 {
		for refuse := -3; refuse <= n+2; refuse++ {
			sinkSame(t, refuse, all[:n])
		}
		for _, refuse := range append(sample.Strays(), sample.Sizes()...) {
			sinkSame(t, refuse, all[:n])
		}
	}
}

func TestSinkOfNoTexts(t *testing.T) {
	for refuse := -2; refuse <= 4; refuse++ {
		sinkSame(t, refuse, make([]string, 6))
	}
}

func TestSinkOfManyTexts(t *testing.T) {
	texts := make([]string, 400)
	for i := range texts {
		texts[i] = strconv.Itoa(i)
	}
	for _, refuse := range []int{-1, 0, 1, 255, 256, 257, 399, 400, 401} {
		sinkSame(t, refuse, texts)
	}
}

func TestAskingTellsNothingElse(t *testing.T) {
	k := source.Open(2)
	for range 5 {
		if len(k.Got()) != 0 || k.Asked() != 0 {
			t.Fatalf("a sink without texts: Got %q, Asked %d", k.Got(), k.Asked())
		}
	}
	k.Put("a")
	for range 5 {
		if got := k.Got(); !slices.Equal(got, []string{"a"}) || k.Asked() != 1 {
			t.Fatalf("behind one text: Got %q, Asked %d", got, k.Asked())
		}
	}
	s := source.New([]byte("abc"), -1, 2)
	for range 5 {
		if s.Given() != 0 || s.Left() != 3 {
			t.Fatalf("ahead of all: Given %d, Left %d", s.Given(), s.Left())
		}
	}
	follow(t, s, 3, step{9, "ab", 0}, step{9, "c", 0})
}

// P5.3

func TestWhatIsHandedInStays(t *testing.T) {
	for _, fail := range []int{-1, 0, 4, 8, 9} {
		whole, b := sample.WithRoom([]byte("abcdefgh"))
		all, sizes := sample.WithRoom([]int{3, 0, 5000})
		s := source.New(b, fail, sizes...)
		for range 9 {
			got, _ := s.Next(2)
			sample.Spoil(got)
		}
		if string(whole) != "abcdefghUUUU" || !slices.Equal(all, []int{3, 0, 5000, 0x55, 0x55, 0x55, 0x55}) {
			t.Errorf("what was handed in is now %q, %d", whole, all)
		}
	}
}

func TestWhatIsHandedInIsNotKept(t *testing.T) {
	for _, c := range []struct {
		sizes []int
		steps []step
	}{
		{nil, []step{{2, "ab", 0}, {9, "cdefgh", 0}, {9, "", api.ErrNone}}},
		{[]int{3, 0}, []step{{2, "ab", 0}, {9, "c", 0}, {9, "d", 0}, {9, "efg", 0}, {9, "h", 0}, {9, "", api.ErrNone}}},
	} {
		for early := range len(c.steps) {
			whole, b := sample.WithRoom([]byte("abcdefgh"))
			all, sizes := sample.WithRoom(c.sizes)
			s := source.New(b, -1, sizes...)
			follow(t, s, 8, c.steps[:early]...)
			sample.Spoil(whole)
			sample.Spoil(all)
			follow(t, s, 8, c.steps[early:]...)
		}
	}
}

func TestSpareRoomIsNotGiven(t *testing.T) {
	_, b := sample.WithRoom([]byte("abc"))
	follow(t, source.New(b, -1), 3, step{9, "abc", 0}, step{9, "", api.ErrNone})
	follow(t, source.New(b, 4), 3, step{9, "abc", 0}, step{9, "", api.ErrNone})
	follow(t, source.New(b[:0], 1), 0, step{9, "", api.ErrNone})
	_, sizes := sample.WithRoom([]int{1, 2})
	follow(t, source.New(b, -1, sizes[:1]...), 3, step{9, "a", 0}, step{9, "b", 0}, step{9, "c", 0})
}

func TestOctetsAreNewMemory(t *testing.T) {
	for _, sizes := range [][]int{nil, {3}, {8}, {1}} {
		for _, most := range []int{1, 2, 3, 8} {
			b := []byte("abcdefgh")
			s, other := source.New(b, -1, sizes...), source.New(b, -1, sizes...)
			var kept [][]byte
			var all, beside string
			for range 8 {
				got, _ := s.Next(most)
				all += string(got)
				kept = append(kept, got)
			}
			if strings.Join(texts(kept), "") != all {
				t.Errorf("sizes %d, most %d: what was answered changed: %q; want %q", sizes, most, kept, all)
			}
			for _, got := range kept {
				sample.Spoil(got)
			}
			for range 8 {
				got, _ := other.Next(most)
				sample.Spoil(got[len(got):])
				beside += string(got)
			}
			if all != "abcdefgh" || beside != all || string(b) != all {
				t.Errorf("sizes %d, most %d: octets are shared: %q, %q, %q", sizes, most, all, beside, b)
			}
		}
	}
}

// texts are lists as texts.
func texts(lists [][]byte) []string {
	var ss []string
	for _, b := range lists {
		ss = append(ss, string(b))
	}
	return ss
}

func TestSpoiltAnswersChangeNothingLater(t *testing.T) {
	for _, sizes := range [][]int{nil, {3}, {8}} {
		s := source.New([]byte("abcdefgh"), 7, sizes...)
		var all string
		for range 9 {
			got, _ := s.Next(2)
			all += string(got)
			sample.Spoil(got)
		}
		if all != "abcdefg" {
			t.Errorf("sizes %d: %q behind spoilt answers; want abcdefg", sizes, all)
		}
	}
}

func TestGotIsNewMemory(t *testing.T) {
	k := source.Open(5)
	for i, s := range []string{"a", "b", "c", "d", "e", "f"} {
		k.Put(s)
		want := []string{"a", "b", "c", "d", "e"}[:min(i+1, 5)]
		first, second := k.Got(), k.Got()
		for j := range first[:cap(first)] {
			first[:cap(first)][j] = "spoilt"
		}
		if !slices.Equal(second, want) || !slices.Equal(k.Got(), want) {
			t.Fatalf("Got shares what it answered: now %q, %q; want %q", second, k.Got(), want)
		}
	}
}

func TestGotStaysBehindPut(t *testing.T) {
	k := source.Open(-1)
	var all []string
	var answers [][]string
	for i := range 20 {
		answers = append(answers, k.Got())
		all = append(all, strconv.Itoa(i))
		k.Put(all[i])
	}
	for n, got := range answers {
		if !slices.Equal(got, all[:n]) {
			t.Errorf("Got behind %d texts is now %q", n, got)
		}
	}
}

func TestObjectsStandAlone(t *testing.T) {
	one, two := source.New([]byte("abcd"), 3, 2), source.New([]byte("wxyz"), -1, 3)
	follow(t, one, 4, step{9, "ab", 0})
	follow(t, two, 4, step{9, "wxy", 0})
	follow(t, one, 4, step{9, "c", 0}, step{9, "", api.ErrSource})
	follow(t, two, 4, step{9, "z", 0}, step{9, "", api.ErrNone})
	follow(t, one, 4, step{9, "", api.ErrSource})
	k, l := source.Open(1), source.Open(-1)
	if k.Put("a") != api.OK || k.Put("b") != api.ErrSink || l.Put("c") != api.OK || l.Put("d") != api.OK {
		t.Error("one sink refuses for another one")
	}
	if !slices.Equal(k.Got(), []string{"a"}) || !slices.Equal(l.Got(), []string{"c", "d"}) || k.Asked() != 2 || l.Asked() != 2 {
		t.Errorf("sinks share: %q, %q, %d, %d", k.Got(), l.Got(), k.Asked(), l.Asked())
	}
}
