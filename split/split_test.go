package split_test

import (
	"math"
	"slices"
	"strconv"
	"strings"
	"testing"
	"unsafe"

	"reedbed/api"
	"reedbed/sample"
	"reedbed/split"
)

// told is what a call tells.
type told struct {
	records []api.Record
	err     api.Errno
}

func (c told) is(records []api.Record, err api.Errno) bool {
	return slices.Equal(c.records, records) && c.err == err
}

// records are those of a text that begins with number n at at: each with its
// end, which doesn't belong to it, a line feed or a return and one.
func records(n, at int, ended ...string) []api.Record {
	var list []api.Record
	for i, s := range ended {
		text := strings.TrimSuffix(strings.TrimSuffix(s, "\n"), "\r")
		list = append(list, api.Record{N: n + i, At: at, Text: text})
		at += len(s)
	}
	return list
}

// plain are a text's records by the document's words.
func plain(most int, text string) told {
	l, err := sample.Records(most, text)
	return told{l, err}
}

// state is what a splitter has told of a text, all together, and how many
// octets it holds.
type state struct {
	told
	held int
}

// known is what is to be told of a text that isn't closed.
func known(most int, text string) state {
	l, err := sample.RecordsBegun(most, text)
	if err != api.OK {
		return state{told{l, err}, 0}
	}
	return state{told{l, err}, len(text) - strings.LastIndexByte(text, '\n') - 1}
}

// knowing is known, each text looked at once.
func knowing(most int) func(text string) state {
	seen := map[string]state{}
	return func(text string) state {
		s, ok := seen[text]
		if !ok {
			s = known(most, text)
			seen[text] = s
		}
		return s
	}
}

// made is a splitter that New has to answer.
func made(t *testing.T, most int) *split.Splitter {
	t.Helper()
	s, err := split.New(most)
	if s == nil || err != api.OK {
		t.Fatalf("New(%d) = %v, %v", most, s, err)
	}
	return s
}

// nothing asks a splitter that has told ErrLong, or is closed, for more.
func nothing(t *testing.T, s *split.Splitter) {
	t.Helper()
	for _, more := range []string{"", "a", "\n", "a\n\r\nb", "\r", strings.Repeat("a", 5000), "a\n" + strings.Repeat("a", 5000) + "\n"} {
		if l, err := s.Write(more); len(l) != 0 || err != api.OK || s.Held() != 0 {
			t.Fatalf("behind its end: Write(%.9q) tells %v, %v, Held %d", more, l, err, s.Held())
		}
		if l, err := s.Close(); len(l) != 0 || err != api.OK || s.Held() != 0 {
			t.Fatalf("behind its end: Close tells %v, %v, Held %d", l, err, s.Held())
		}
	}
}

// together is what a splitter tells of those pieces and of Close behind them,
// all together.
func together(t *testing.T, most int, pieces ...string) told {
	t.Helper()
	s := made(t, most)
	var c told
	for _, piece := range pieces {
		l, err := s.Write(piece)
		c.add(t, l, err)
		if s.Held() > most+1 {
			t.Fatalf("New(%d): Held %d", most, s.Held())
		}
	}
	l, err := s.Close()
	c.add(t, l, err)
	if s.Held() != 0 {
		t.Fatalf("New(%d): Held %d behind Close", most, s.Held())
	}
	return c
}

func (c *told) add(t *testing.T, l []api.Record, err api.Errno) {
	t.Helper()
	if c.err != api.OK && (len(l) > 0 || err != api.OK) {
		t.Fatalf("behind %v: %v, %v", c.err, l, err)
	}
	c.records = append(c.records, l...)
	if err != api.OK {
		c.err = err
	}
}

// by is a text in pieces of n octets.
func by(n int, text string) []string {
	var pieces []string
	for ; len(text) > n; text = text[n:] {
		pieces = append(pieces, text[:n])
	}
	return append(pieces, text)
}

// P7.1

func TestMostAtItsEnds(t *testing.T) {
	for _, most := range slices.Concat(sample.Strays(), sample.Sizes(), []int{4094, 1<<32 + 1, 1<<32 + 4096, -1<<32 + 1, math.MinInt + 1}) {
		s, err := split.New(most)
		if most >= 1 && most <= 4096 {
			if s == nil || err != api.OK || s.Held() != 0 {
				t.Errorf("New(%d) = %v, %v", most, s, err)
			}
			continue
		}
		if s != nil || err != api.ErrArg {
			t.Errorf("New(%d) = %v, %v; want nil, ErrArg", most, s, err)
		}
		// ErrArg also where no record is there, and where one is too long.
		for _, text := range []string{"", "a", "a\nb\n", strings.Repeat("a", 5000)} {
			if l, err := split.All(most, text); len(l) != 0 || err != api.ErrArg {
				t.Errorf("All(%d, %.9q) = %v, %v; want none, ErrArg", most, text, l, err)
			}
		}
	}
}

// step is a Write: what it tells, and how many octets are held behind it.
type step struct {
	in string
	told
	held int
}

// course is a text: its Writes, and what Close tells behind them.
type course struct {
	name  string
	most  int
	steps []step
	last  told
}

// courses are those of the document's edges.
func courses() []course {
	none := told{}
	long := told{nil, api.ErrLong}
	ends := func(n, at int, ended ...string) told { return told{records(n, at, ended...), api.OK} }
	longBehind := func(n, at int, ended ...string) told { return told{records(n, at, ended...), api.ErrLong} }
	return []course{
		{"the example", 9, []step{{"a\r\nb", ends(0, 0, "a\r\n"), 1}}, ends(1, 3, "b")},
		{"nothing", 1, nil, none},
		{"an empty text", 1, []step{{"", none, 0}, {"", none, 0}}, none},
		{"a line feed", 1, []step{{"\n", ends(0, 0, "\n"), 0}}, none},
		{"line feeds", 1, []step{{"\n\n", ends(0, 0, "\n", "\n"), 0}, {"\n", ends(2, 2, "\n"), 0}}, none},
		{"ends in a line feed", 3, []step{{"ab\nabc\n", ends(0, 0, "ab\n", "abc\n"), 0}}, none},
		{"ends without one", 3, []step{{"ab\nabc", ends(0, 0, "ab\n"), 3}}, ends(1, 3, "abc")},

		{"a return ahead of a line feed", 9, []step{{"\r\nab\r\n", ends(0, 0, "\r\n", "ab\r\n"), 0}}, none},
		{"two of them", 9, []step{{"\r\r\nab\r\r\n", ends(0, 0, "\r\r\n", "ab\r\r\n"), 0}}, none},
		{"returns elsewhere", 9, []step{{"\ra\rb\r\r", none, 6}, {"c\n\r", ends(0, 0, "\ra\rb\r\rc\n"), 1}, {"d", none, 2}},
			told{[]api.Record{{N: 1, At: 8, Text: "\rd"}}, api.OK}},
		{"a return behind a line feed", 9, []step{{"a\n\r\n", ends(0, 0, "a\n", "\r\n"), 0}, {"b\n\r\nc", ends(2, 4, "b\n", "\r\n"), 1}}, ends(4, 8, "c")},
		{"a return at the end of the text", 9, []step{{"a\nb\r", ends(0, 0, "a\n"), 2}}, told{[]api.Record{{N: 1, At: 2, Text: "b\r"}}, api.OK}},
		{"a return alone", 1, []step{{"\r", none, 1}}, told{[]api.Record{{Text: "\r"}}, api.OK}},
		{"the line feed in the next piece", 9, []step{{"ab\r", none, 3}, {"\nc", ends(0, 0, "ab\r\n"), 1}, {"\r", none, 2}, {"\n", ends(1, 4, "c\r\n"), 0}}, none},
		{"nothing between return and line feed", 9, []step{{"ab\r", none, 3}, {"", none, 3}, {"\n", ends(0, 0, "ab\r\n"), 0}}, none},
		{"a second return in the next piece", 9, []step{{"ab\r", none, 3}, {"\r\n", ends(0, 0, "ab\r\r\n"), 0}}, none},

		{"just so many, in pieces", 3, []step{{"a", none, 1}, {"bc", none, 3}, {"\r", none, 4}, {"\n", ends(0, 0, "abc\r\n"), 0}, {"abc", none, 3}, {"\n", ends(1, 5, "abc\n"), 0}}, none},
		{"a return that is the record's own", 3, []step{{"ab\r", none, 3}, {"\r", none, 4}, {"\n", ends(0, 0, "ab\r\r\n"), 0}}, none},
		{"a return too much at the end", 3, []step{{"abc\r", none, 4}}, long},
		{"a return too much ahead of another one", 3, []step{{"abc\r", none, 4}, {"\r", long, 0}}, none},
		{"a return too much ahead of another octet", 3, []step{{"abc\r", none, 4}, {"x\n", long, 0}}, none},
		{"two returns too much at once", 3, []step{{"abc\r\r", long, 0}}, none},
		{"two returns too much ahead of a line feed", 3, []step{{"abc\r\r\n", long, 0}}, none},
		{"an octet too much", 3, []step{{"abc", none, 3}, {"d", long, 0}}, none},
		{"an octet and a return too much", 3, []step{{"abc", none, 3}, {"d\r\n", long, 0}}, none},
		{"an octet too much at once", 3, []step{{"abcd", long, 0}}, none},
		{"returns alone", 1, []step{{"\r\r\n\r", ends(0, 0, "\r\r\n"), 1}, {"\r", none, 2}, {"\r", long, 0}}, none},

		{"too long behind others of the piece", 3, []step{{"a\nabc\r\nabcd\nb\n", longBehind(0, 0, "a\n", "abc\r\n"), 0}}, none},
		{"too long behind others of earlier pieces", 3, []step{{"a\nabc", ends(0, 0, "a\n"), 3}, {"\nb\n\nabcd", longBehind(1, 2, "abc\n", "b\n", "\n"), 0}}, none},
		{"too long at the end, behind others", 3, []step{{"a\nb\n", ends(0, 0, "a\n", "b\n"), 0}, {"c\nabc\r", ends(2, 4, "c\n"), 4}}, long},
		{"the first one that is too long", 1, []step{{"a\nabc\nb\nabc\n", longBehind(0, 0, "a\n"), 0}}, none},
		{"octets that are no text", 2, []step{{"\xff\x00\n", ends(0, 0, "\xff\x00\n"), 0}, {"\x0b\x85\n\xe2\x80", ends(1, 3, "\x0b\x85\n"), 2}, {"\xa8", long, 0}}, none},
	}
}

func TestCourses(t *testing.T) {
	for _, c := range courses() {
		t.Run(c.name, func(t *testing.T) {
			s := made(t, c.most)
			for i, w := range c.steps {
				if l, err := s.Write(w.in); !w.is(l, err) || s.Held() != w.held {
					t.Fatalf("Write %d, of %q, tells %v, %v, Held %d; want %v, %v, %d", i, w.in, l, err, s.Held(), w.records, w.err, w.held)
				}
			}
			if l, err := s.Close(); !c.last.is(l, err) || s.Held() != 0 {
				t.Fatalf("Close tells %v, %v, Held %d; want %v, %v", l, err, s.Held(), c.last.records, c.last.err)
			}
			nothing(t, s)
		})
	}
}

func TestCloseByWhatIsHeld(t *testing.T) {
	for _, c := range []struct {
		most int
		held string
		long bool
	}{
		{3, "a", false}, {3, "abc", false}, {3, "\r", false}, {3, "ab\r", false}, {3, "\r\r\r", false}, {3, "abc\r", true}, {3, "\r\r\r\r", true}, {1, "\r\r", true},
	} {
		for _, ahead := range []string{"", "\n", "a\nb\r\n"} {
			s := made(t, c.most)
			s.Write(ahead)
			s.Write(c.held)
			want := told{err: api.ErrLong}
			if !c.long {
				want = told{records: []api.Record{{N: strings.Count(ahead, "\n"), At: len(ahead), Text: c.held}}}
			}
			if l, err := s.Close(); !want.is(l, err) || s.Held() != 0 {
				t.Errorf("New(%d), %q, %q: Close tells %v, %v, Held %d", c.most, ahead, c.held, l, err, s.Held())
			}
			nothing(t, s)
		}
	}
}

func TestJustSoManyOctets(t *testing.T) {
	for _, most := range []int{1, 2, 3, 255, 256, 257, 4095, 4096} {
		just := strings.Repeat("a", most)
		for _, ahead := range []string{"", "\n", "a\r\n\nb\n"} {
			first := plain(most, ahead).records
			long := told{first, api.ErrLong}
			with := func(text string) told {
				last := api.Record{N: len(first), At: len(ahead), Text: text}
				return told{append(slices.Clone(first), last), api.OK}
			}
			for _, end := range []string{"\n", "\r\n", ""} {
				sameAll(t, most, ahead+just+end, with(just))
				sameAll(t, most, ahead+just+"b"+end, long)
				sameAll(t, most, ahead+just+"\r\r"+end, long)
			}
			// A return with nothing behind it is the record's own.
			sameAll(t, most, ahead+just[1:]+"\r", with(just[1:]+"\r"))
			sameAll(t, most, ahead+just+"\r", long)
			sameAll(t, most, ahead+just+"b\r", long)
		}
	}
}

// sameAll holds All, and what a splitter tells of the text at once and octet by
// octet, against what is to be told.
func sameAll(t *testing.T, most int, text string, want told) {
	t.Helper()
	if l, err := split.All(most, text); !want.is(l, err) {
		t.Fatalf("All(%d, %.20q) tells %d records, %v; want %d, %v", most, text, len(l), err, len(want.records), want.err)
	}
	for _, n := range []int{1, len(text) + 1} {
		if c := together(t, most, by(n, text)...); !want.is(c.records, c.err) {
			t.Fatalf("New(%d), %.20q by %d tells %d records, %v; want %d, %v", most, text, n, len(c.records), c.err, len(want.records), want.err)
		}
	}
}

func TestLongIsToldAtOnce(t *testing.T) {
	for _, most := range []int{1, 2, 5, 4095, 4096} {
		just := strings.Repeat("a", most)
		for _, c := range []struct{ held, more string }{
			{just, "b"}, {just + "\r", "b"}, {just + "\r", "\r"}, {just[1:] + "\r\r", "\r"}, {just[1:] + "\r\r", "b"},
		} {
			for _, behind := range append(sample.TextBehinds(), "\na\n", strings.Repeat("b", 9000)) {
				s := made(t, most)
				s.Write("a\n")
				if l, err := s.Write(c.held); len(l) != 0 || err != api.OK || s.Held() != len(c.held) {
					t.Fatalf("New(%d): Write of %d octets tells %v, %v, Held %d", most, len(c.held), l, err, s.Held())
				}
				if l, err := s.Write(c.more + behind); len(l) != 0 || err != api.ErrLong || s.Held() != 0 {
					t.Fatalf("New(%d), %d octets: Write(%.9q) tells %v, %v, Held %d; want ErrLong", most, len(c.held), c.more+behind, l, err, s.Held())
				}
				nothing(t, s)
				s = made(t, most)
				if l, err := s.Write("a\n" + c.held + c.more + behind); !(told{records(0, 0, "a\n"), api.ErrLong}).is(l, err) || s.Held() != 0 {
					t.Fatalf("New(%d), at once: %v, %v, Held %d; want ErrLong", most, l, err, s.Held())
				}
			}
		}
	}
}

func TestHeldAtEveryStep(t *testing.T) {
	for _, most := range []int{1, 2, 4096} {
		s := made(t, most)
		if s.Held() != 0 {
			t.Fatalf("New(%d): Held %d", most, s.Held())
		}
		for range 3 {
			for n := range most {
				if l, err := s.Write("a"); len(l) != 0 || err != api.OK || s.Held() != n+1 {
					t.Fatalf("New(%d), octet %d: %v, %v, Held %d", most, n, l, err, s.Held())
				}
			}
			if l, err := s.Write("\r"); len(l) != 0 || err != api.OK || s.Held() != most+1 {
				t.Fatalf("New(%d), return: %v, %v, Held %d", most, l, err, s.Held())
			}
			if l, err := s.Write("\n"); len(l) != 1 || err != api.OK || s.Held() != 0 {
				t.Fatalf("New(%d), line feed: %v, %v, Held %d", most, l, err, s.Held())
			}
		}
	}
}

func TestWriteOfNoOctets(t *testing.T) {
	for _, text := range []string{"a\n\r\nab\r\nc", "abc\r\nab", "abc\r", "abcd\na\n", "\n\n"} {
		s := made(t, 3)
		var c told
		for _, piece := range append([]string{""}, by(1, text)...) {
			l, err := s.Write(piece)
			c.add(t, l, err)
			held := s.Held()
			for range 2 {
				if l, err := s.Write(""); len(l) != 0 || err != api.OK || s.Held() != held {
					t.Fatalf("%q: Write of none tells %v, %v, Held %d; want %d", text, l, err, s.Held(), held)
				}
			}
		}
		l, err := s.Close()
		c.add(t, l, err)
		if !plain(3, text).is(c.records, c.err) {
			t.Errorf("%q with Writes of none: %v, %v", text, c.records, c.err)
		}
	}
}

// P7.2

func TestAllOfTheExamples(t *testing.T) {
	for _, c := range []struct {
		most int
		text string
		want []api.Record
		err  api.Errno
	}{
		{9, "a\r\nb", []api.Record{{Text: "a"}, {N: 1, At: 3, Text: "b"}}, 0},
		{9, "", nil, 0},
		{1, "\n", []api.Record{{}}, 0},
		{1, "\n\n\n", []api.Record{{}, {N: 1, At: 1}, {N: 2, At: 2}}, 0},
		{1, "\r\n\r\n", []api.Record{{}, {N: 1, At: 2}}, 0},
		{9, "ab", []api.Record{{Text: "ab"}}, 0},
		{9, "ab\n", []api.Record{{Text: "ab"}}, 0},
		{9, "ab\n\n", []api.Record{{Text: "ab"}, {N: 1, At: 3}}, 0},
		{9, "\r", []api.Record{{Text: "\r"}}, 0},
		{9, "ab\r", []api.Record{{Text: "ab\r"}}, 0},
		{9, "a\n\r", []api.Record{{Text: "a"}, {N: 1, At: 2, Text: "\r"}}, 0},
		{9, "a\n\r\n\rb\r\r\nc\r", []api.Record{{Text: "a"}, {N: 1, At: 2}, {N: 2, At: 4, Text: "\rb\r"}, {N: 3, At: 9, Text: "c\r"}}, 0},
		{3, "abc\r\nabc\nabc", []api.Record{{Text: "abc"}, {N: 1, At: 5, Text: "abc"}, {N: 2, At: 9, Text: "abc"}}, 0},
		{3, "abc\r\nabc\nabcd", []api.Record{{Text: "abc"}, {N: 1, At: 5, Text: "abc"}}, api.ErrLong},
		{3, "abc\r\nabc\nabc\r", []api.Record{{Text: "abc"}, {N: 1, At: 5, Text: "abc"}}, api.ErrLong},
		{3, "a\nabcd\nb\n", []api.Record{{Text: "a"}}, api.ErrLong},
		{3, "abcd\nb\n", nil, api.ErrLong},
		{3, "abcd", nil, api.ErrLong},
		{3, "abc\r", nil, api.ErrLong},
		{3, "abc\r\r\n", nil, api.ErrLong},
		{3, "abc\rx\n", nil, api.ErrLong},
		{4096, "a\x00\xff\xfe\n\u20ac", []api.Record{{Text: "a\x00\xff\xfe"}, {N: 1, At: 5, Text: "\u20ac"}}, 0},
	} {
		if l, err := split.All(c.most, c.text); !slices.Equal(l, c.want) || err != c.err {
			t.Errorf("All(%d, %q) = %v, %v; want %v, %v", c.most, c.text, l, err, c.want, c.err)
		}
	}
}

func TestAllOfAllShortTexts(t *testing.T) {
	sample.Each([]byte("a\r\n"), 9, func(b []byte) {
		text := string(b)
		for most := 1; most <= 4; most++ {
			want := plain(most, text)
			if l, err := split.All(most, text); !want.is(l, err) {
				t.Fatalf("All(%d, %q) = %v, %v; want %v, %v", most, text, l, err, want.records, want.err)
			}
		}
	})
}

// P7.1 and P7.3

func TestEveryCut(t *testing.T) {
	for most := 1; most <= 3; most++ {
		t.Run(strconv.Itoa(most), func(t *testing.T) {
			t.Parallel()
			known := knowing(most)
			sample.Each([]byte("a\r\n"), 7, func(b []byte) {
				text := string(b)
				want, err := split.All(most, text)
				for bits := range 1 << max(len(text)-1, 0) {
					c := watched(t, most, known, sample.Pieces(text, bits))
					if !c.is(want, err) {
						t.Fatalf("New(%d), %q: %v, %v; want %v, %v", most, sample.Pieces(text, bits), c.records, c.err, want, err)
					}
				}
			})
		})
	}
}

// watched is what a splitter tells of those pieces and of Close, all together,
// each step held against what is known then.
func watched(t *testing.T, most int, known func(text string) state, pieces []string) told {
	t.Helper()
	s := made(t, most)
	var c told
	text := ""
	for _, piece := range pieces {
		text += piece
		l, err := s.Write(piece)
		c.add(t, l, err)
		want := known(text)
		if !want.is(c.records, c.err) || s.Held() != want.held {
			t.Fatalf("New(%d), %q up to %q: %v, %v, Held %d; want %v, %v, %d", most, pieces, text, c.records, c.err, s.Held(), want.records, want.err, want.held)
		}
	}
	l, err := s.Close()
	c.add(t, l, err)
	if s.Held() != 0 {
		t.Fatalf("New(%d), %q: Held %d behind Close", most, pieces, s.Held())
	}
	return c
}

// longText has many records of all lengths up to most, with all ends.
func longText(most, n int) string {
	var b strings.Builder
	for i := range n {
		for k := range (i * i * 7) % (most + 1) {
			b.WriteByte("abc\rd"[(i+k)%5])
		}
		// Where the record ends in a return, a line feed alone would take it.
		b.WriteString([]string{"\n", "\r\n", "\n\n"}[i%3])
	}
	return b.String()
}

func TestLongTexts(t *testing.T) {
	for _, c := range []struct{ most, n int }{{1, 20000}, {5, 20000}, {300, 1000}, {4096, 60}} {
		text := longText(c.most, c.n) + "b"
		for _, text := range []string{text, text + "\r\n", text + strings.Repeat("b", c.most) + "\na\n", text + strings.Repeat("b", c.most-1) + "\r"} {
			want := plain(c.most, text)
			if len(want.records) < c.n {
				t.Fatalf("most %d: %d records", c.most, len(want.records))
			}
			if l, err := split.All(c.most, text); !want.is(l, err) {
				t.Fatalf("All(%d, %d octets) tells %d records, %v; want %d, %v", c.most, len(text), len(l), err, len(want.records), want.err)
			}
			for _, n := range []int{1, 2, 3, 7, 64, 4095, 4096, len(text) - 1} {
				if got := together(t, c.most, by(n, text)...); !want.is(got.records, got.err) {
					t.Fatalf("New(%d), %d octets by %d tells %d records, %v; want %d, %v", c.most, len(text), n, len(got.records), got.err, len(want.records), want.err)
				}
			}
		}
	}
}

func TestNumbersAndPlacesOverManyPieces(t *testing.T) {
	const most = 2
	s := made(t, most)
	n, at := 0, 0
	for i := range 30000 {
		line := []string{"\n", "a\n", "ab\r\n", "\r\n", "\r\r\n"}[i%5]
		want := told{records(n, at, line), api.OK}
		// The last record is held from the piece ahead.
		if l, err := s.Write(line[:len(line)-1]); len(l) != 0 || err != api.OK || s.Held() != len(line)-1 {
			t.Fatalf("line %d: %v, %v, Held %d", i, l, err, s.Held())
		}
		if l, err := s.Write("\n"); !want.is(l, err) {
			t.Fatalf("line %d: %v, %v; want %v", i, l, err, want.records)
		}
		n, at = n+1, at+len(line)
	}
	s.Write("b\r")
	want := told{[]api.Record{{N: 30000, At: at, Text: "b\r"}}, api.OK}
	if l, err := s.Close(); !want.is(l, err) {
		t.Errorf("Close tells %v, %v; want %v", l, err, want.records)
	}
}

// P7.3

// lent is a text whose octets may be changed.
func lent(text string) ([]byte, string) {
	b := []byte(text)
	return b, unsafe.String(unsafe.SliceData(b), len(b))
}

func TestWhatIsHandedInIsNotKept(t *testing.T) {
	const text = "ab\ncd\r\n\refg"
	want := plain(4, text)
	b, s := lent(text)
	all, err := split.All(4, s)
	if string(b) != text {
		t.Fatalf("what was handed in is now %q", b)
	}
	sample.Spoil(b)
	if !want.is(all, err) {
		t.Errorf("All: kept of what was handed in: %v, %v", all, err)
	}
	for n := 1; n <= len(text); n++ {
		d := made(t, 4)
		var c told
		for _, piece := range by(n, text) {
			b, s := lent(piece)
			l, err := d.Write(s)
			if string(b) != piece {
				t.Fatalf("what was handed in is now %q; want %q", b, piece)
			}
			sample.Spoil(b)
			c.add(t, l, err)
		}
		l, err := d.Close()
		c.add(t, l, err)
		if !want.is(c.records, c.err) {
			t.Errorf("by %d: kept of what was handed in: %v, %v", n, c.records, c.err)
		}
	}
}

// spoil overwrites records with their spare room.
func spoil(l []api.Record) {
	sample.SpoilBy(l, api.Record{N: -7, At: -7, Text: "spoilt"})
}

func TestAnswersAreNewMemory(t *testing.T) {
	const text = "a\nb\n\ncd\r\nef\ngh\n\ri"
	want := plain(3, text)
	for n := 1; n <= len(text); n++ {
		kept, spoilt := made(t, 3), made(t, 3)
		var c told
		var answers [][]api.Record
		for _, piece := range by(n, text) {
			l, _ := kept.Write(piece)
			answers = append(answers, l)
			l, err := spoilt.Write(piece)
			c.add(t, slices.Clone(l), err)
			spoil(l)
		}
		l, _ := kept.Close()
		answers = append(answers, l)
		l, err := spoilt.Close()
		c.add(t, slices.Clone(l), err)
		spoil(l)
		if !want.is(c.records, c.err) {
			t.Errorf("by %d: behind spoilt answers %v, %v", n, c.records, c.err)
		}
		// What was answered ahead stays, whatever is told behind it.
		if got := slices.Concat(answers...); !want.is(got, api.OK) {
			t.Errorf("by %d: what was answered is now %v", n, got)
		}
	}
	first, _ := split.All(3, text)
	second, _ := split.All(3, text)
	spoil(first)
	if third, err := split.All(3, text); !want.is(second, api.OK) || !want.is(third, err) {
		t.Errorf("All shares what it answered: now %v, %v", second, third)
	}
}

func TestSplittersStandAlone(t *testing.T) {
	one, two := made(t, 2), made(t, 3)
	one.Write("a\nab\r")
	two.Write("xy")
	if one.Held() != 3 || two.Held() != 2 {
		t.Fatalf("Held %d, %d", one.Held(), two.Held())
	}
	if l, err := one.Write("c"); len(l) != 0 || err != api.ErrLong {
		t.Fatalf("%v, %v; want ErrLong", l, err)
	}
	if l, err := two.Write("z\r\nx"); !(told{records(0, 0, "xyz\r\n"), api.OK}).is(l, err) || two.Held() != 1 {
		t.Errorf("%v, %v, Held %d", l, err, two.Held())
	}
	one.Close()
	if l, err := two.Close(); !(told{records(1, 5, "x"), api.OK}).is(l, err) {
		t.Errorf("%v, %v", l, err)
	}
}
