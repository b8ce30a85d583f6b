package decode_test

import (
	"bytes"
	"encoding/binary"
	"slices"
	"strconv"
	"strings"
	"testing"
	"unicode/utf16"
	"unicode/utf8"

	"reedbed/api"
	"reedbed/code"
	"reedbed/decode"
	"reedbed/order"
	"reedbed/sample"
)

// wrong is the text of what is no code point.
const wrong = "\xef\xbf\xbd"

// turning are octets at which what is told turns: of marks, of code points,
// of units.
func turning() []byte {
	return []byte{
		0x00, 0x41, 0x80, 0x8f, 0x90, 0x9f, 0xa0, 0xbb, 0xbf, 0xc2,
		0xd7, 0xd8, 0xdb, 0xdc, 0xdf, 0xe0, 0xed, 0xef, 0xf0, 0xf4, 0xfe, 0xff,
	}
}

// part is a code point, and how many octets it takes.
type part struct {
	r rune
	n int
}

// reading is what octets are by the document's words alone: their encoding,
// how many octets its mark has, and the code points behind it.
type reading struct {
	kind, mark int
	parts      []part
}

func plain(kind int, b []byte) reading {
	p := reading{kind: kind, parts: make([]part, 0, len(b))}
	if kind == api.Auto {
		p.kind, p.mark = ahead(b)
	}
	for b = b[p.mark:]; len(b) > 0; {
		r, n := first(p.kind, b)
		p.parts, b = append(p.parts, part{r, n}), b[n:]
	}
	return p
}

// ahead is the encoding that no one has told, and how many octets its mark has.
func ahead(b []byte) (int, int) {
	switch {
	case bytes.HasPrefix(b, []byte("\xef\xbb\xbf")):
		return api.Eight, 3
	case bytes.HasPrefix(b, []byte("\xff\xfe")):
		return api.Low, 2
	case bytes.HasPrefix(b, []byte("\xfe\xff")):
		return api.High, 2
	}
	return api.Eight, 0
}

// first is the code point that stands at the beginning of b.
func first(kind int, b []byte) (rune, int) {
	if kind == api.Eight {
		return utf8.DecodeRune(b)
	}
	if len(b) < 2 {
		return utf8.RuneError, 1
	}
	var at binary.ByteOrder = binary.LittleEndian
	if kind == api.High {
		at = binary.BigEndian
	}
	u := rune(at.Uint16(b))
	if !utf16.IsSurrogate(u) {
		return u, 2
	}
	if len(b) >= 4 {
		if r := utf16.DecodeRune(u, rune(at.Uint16(b[2:]))); r != utf8.RuneError {
			return r, 4
		}
	}
	return utf8.RuneError, 2
}

// text is that of the code points, and how many octets they take, with the mark.
func (p reading) text() (string, int) {
	var s []byte
	n := p.mark
	for _, x := range p.parts {
		s = utf8.AppendRune(s, x.r)
		n += x.n
	}
	return string(s), n
}

// behinds are what may come behind octets: with them any beginning of a mark,
// of a code point or of its units becomes one, and doesn't.
func behinds() []string {
	var all []string
	sample.Each([]byte{0x00, 0x80, 0xbb, 0xbf, 0xdc, 0xfe, 0xff}, 3, func(b []byte) {
		all = append(all, string(b))
	})
	return all
}

// settled is the kind, the text and how many octets are held of b, as far as
// all that may come behind leaves them.
func settled(kind int, b []byte, behinds []string) (int, string, int) {
	p := plain(kind, b)
	for _, s := range behinds {
		q := plain(kind, append(slices.Clip(b), s...))
		// The kind is sure when layer 2's Sure says so of the mark.
		if q.kind != p.kind || q.mark != p.mark {
			return api.Auto, "", len(b)
		}
		n := 0
		for n < len(p.parts) && n < len(q.parts) && p.parts[n] == q.parts[n] {
			n++
		}
		p.parts = p.parts[:n]
	}
	text, n := p.text()
	return p.kind, text, len(b) - n
}

// made is a decoder of a kind that is one.
func made(t *testing.T, kind int) *decode.Decoder {
	t.Helper()
	d, err := decode.New(kind)
	if d == nil || err != api.OK {
		t.Fatalf("New(%d) = %v, %v", kind, d, err)
	}
	return d
}

// apart is what a decoder tells of those pieces, all together.
func apart(t *testing.T, kind int, pieces ...[]byte) string {
	t.Helper()
	d := made(t, kind)
	var s strings.Builder
	for _, b := range pieces {
		s.WriteString(d.Write(b))
		if d.Held() > 3 {
			t.Fatalf("kind %d: %d held behind %x of %x", kind, d.Held(), b, pieces)
		}
	}
	s.WriteString(d.Close())
	return s.String()
}

// single cuts b octet by octet.
func single(b []byte) [][]byte {
	return slices.Collect(slices.Chunk(b, 1))
}

// P3.1

func TestNew(t *testing.T) {
	for kind := range 4 {
		d := made(t, kind)
		if d.Kind() != kind || d.Held() != 0 {
			t.Errorf("New(%d): Kind %d, Held %d", kind, d.Kind(), d.Held())
		}
	}
	for _, kind := range sample.StrayKinds() {
		if d, err := decode.New(kind); d != nil || err != api.ErrArg {
			t.Errorf("New(%d) = %v, %v", kind, d, err)
		}
	}
}

// step is a Write: what it tells, and what is held and sure behind it.
type step struct {
	in, told   string
	held, kind int
}

// course is a stream: its Writes, and what Close tells behind them.
type course struct {
	kind  int
	steps []step
	last  string
}

// follow holds a decoder against a course.
func follow(t *testing.T, c course) {
	t.Helper()
	d := made(t, c.kind)
	for i, s := range c.steps {
		told := d.Write([]byte(s.in))
		if told != s.told || d.Held() != s.held || d.Kind() != s.kind {
			t.Errorf("New(%d), %x: Write %d tells %q, Held %d, Kind %d", c.kind, c.steps, i, told, d.Held(), d.Kind())
		}
	}
	if last := d.Close(); last != c.last || d.Held() != 0 {
		t.Errorf("New(%d), %x: Close tells %q, Held %d", c.kind, c.steps, last, d.Held())
	}
}

func TestMarks(t *testing.T) {
	for _, c := range []course{
		{api.Auto, []step{{"\xef", "", 1, 0}, {"\xbb", "", 2, 0}, {"\xbf", "", 0, 1}, {"a", "a", 0, 1}}, ""},
		{api.Auto, []step{{"\xff", "", 1, 0}, {"\xfe", "", 0, 2}, {"a", "", 1, 2}, {"\x00", "a", 0, 2}}, ""},
		{api.Auto, []step{{"\xfe", "", 1, 0}, {"\xff", "", 0, 3}, {"\x00", "", 1, 3}, {"a", "a", 0, 3}}, ""},
		{api.Auto, []step{{"\xef\xbb\xbfab", "ab", 0, 1}}, ""},
		{api.Auto, []step{{"\xff\xfea\x00b", "a", 1, 2}}, wrong},
		{api.Auto, []step{{"\xfe\xff\x00ab", "a", 1, 3}}, wrong},
		// A mark stands at the beginning alone, and once.
		{api.Auto, []step{{"\xef\xbb\xbf\xef\xbb\xbf", "\xef\xbb\xbf", 0, 1}}, ""},
		{api.Auto, []step{{"\xff\xfe\xff\xfe", "\xef\xbb\xbf", 0, 2}}, ""},
		{api.Auto, []step{{"\xff\xfe\xfe\xff", "\xef\xbf\xbe", 0, 2}}, ""},
		{api.Auto, []step{{"\xfe\xff\xfe\xff", "\xef\xbb\xbf", 0, 3}}, ""},
		{api.Auto, []step{{"a\xef\xbb\xbf", "a\xef\xbb\xbf", 0, 1}}, ""},
		{api.Auto, []step{{"a", "a", 0, 1}, {"\xff", wrong, 0, 1}, {"\xfe", wrong, 0, 1}}, ""},
		// Beginnings of marks that come to none.
		{api.Auto, []step{{"\xef", "", 1, 0}, {"a", wrong + "a", 0, 1}}, ""},
		{api.Auto, []step{{"\xef\xbb", "", 2, 0}, {"a", wrong + wrong + "a", 0, 1}}, ""},
		{api.Auto, []step{{"\xef\xbb", "", 2, 0}, {"\xbe", "\xef\xbb\xbe", 0, 1}}, ""},
		{api.Auto, []step{{"\xef", "", 1, 0}, {"\xba", "", 2, 1}, {"\x80", "\xef\xba\x80", 0, 1}}, ""},
		{api.Auto, []step{{"\xef", "", 1, 0}, {"\xef", wrong, 1, 1}, {"\xbb\xbf", "\xef\xbb\xbf", 0, 1}}, ""},
		{api.Auto, []step{{"\xff", "", 1, 0}, {"\xff", wrong + wrong, 0, 1}, {"\xfe", wrong, 0, 1}}, ""},
		{api.Auto, []step{{"\xfe", "", 1, 0}, {"\xe2", wrong, 1, 1}, {"\x82\xac", "\xe2\x82\xac", 0, 1}}, ""},
		{api.Auto, []step{{"\xef", "", 1, 0}}, wrong},
		{api.Auto, []step{{"\xef\xbb", "", 2, 0}}, wrong + wrong},
		{api.Auto, []step{{"\xff", "", 1, 0}}, wrong},
		{api.Auto, []step{{"\xfe", "", 1, 0}}, wrong},
		{api.Auto, nil, ""},
		// Of an encoding that is told, no mark is looked for.
		{api.Eight, []step{{"\xef", "", 1, 1}, {"\xbb", "", 2, 1}, {"\xbf", "\xef\xbb\xbf", 0, 1}}, ""},
		{api.Eight, []step{{"\xff", wrong, 0, 1}, {"\xfe", wrong, 0, 1}, {"a", "a", 0, 1}}, ""},
		{api.Eight, []step{{"\xfe\xff\x00", wrong + wrong + "\x00", 0, 1}}, ""},
		{api.Low, []step{{"\xff", "", 1, 2}, {"\xfe", "\xef\xbb\xbf", 0, 2}, {"a\x00", "a", 0, 2}}, ""},
		{api.Low, []step{{"\xfe\xff", "\xef\xbf\xbe", 0, 2}}, ""},
		{api.Low, []step{{"\xef\xbb\xbf", "\xeb\xaf\xaf", 1, 2}}, wrong},
		{api.High, []step{{"\xfe", "", 1, 3}, {"\xff", "\xef\xbb\xbf", 0, 3}, {"\x00a", "a", 0, 3}}, ""},
		{api.High, []step{{"\xff\xfe", "\xef\xbf\xbe", 0, 3}}, ""},
	} {
		follow(t, c)
	}
}

func TestOctetsOfCodePoints(t *testing.T) {
	for _, c := range []course{
		{api.Eight, []step{{"a", "a", 0, 1}, {"\x00", "\x00", 0, 1}, {"\x7f", "\x7f", 0, 1}}, ""},
		{api.Eight, []step{{"\xc3", "", 1, 1}, {"\xa9", "\xc3\xa9", 0, 1}}, ""},
		{api.Eight, []step{{"\xe2\x82", "", 2, 1}, {"\xacA", "\xe2\x82\xacA", 0, 1}}, ""},
		{api.Eight, []step{{"\xf0", "", 1, 1}, {"\x9f", "", 2, 1}, {"\x98", "", 3, 1}, {"\x80", "\xf0\x9f\x98\x80", 0, 1}}, ""},
		// Octets that are none of a code point.
		{api.Eight, []step{{"\x80", wrong, 0, 1}, {"\xbf", wrong, 0, 1}, {"a\xffb", "a" + wrong + "b", 0, 1}}, ""},
		{api.Eight, []step{{"\xc0", wrong, 0, 1}, {"\xc1\xbf", wrong + wrong, 0, 1}, {"\xf5", wrong, 0, 1}, {"\xf8", wrong, 0, 1}}, ""},
		{api.Eight, []step{{"\xe0", "", 1, 1}, {"\x9f", wrong + wrong, 0, 1}}, ""},
		{api.Eight, []step{{"\xed", "", 1, 1}, {"\xa0", wrong + wrong, 0, 1}, {"\x80", wrong, 0, 1}}, ""},
		{api.Eight, []step{{"\xf0", "", 1, 1}, {"\x8f", wrong + wrong, 0, 1}}, ""},
		{api.Eight, []step{{"\xf4", "", 1, 1}, {"\x90", wrong + wrong, 0, 1}}, ""},
		// Only a beginning of one, within the stream and at its end.
		{api.Eight, []step{{"\xe2\x82b", wrong + wrong + "b", 0, 1}}, ""},
		{api.Eight, []step{{"\xf0\x9f\x98", "", 3, 1}, {"b", wrong + wrong + wrong + "b", 0, 1}}, ""},
		{api.Eight, []step{{"\xf0\x9f\x98", "", 3, 1}, {"\xe2", wrong + wrong + wrong, 1, 1}, {"\xc3", wrong, 1, 1}, {"\xa9", "\xc3\xa9", 0, 1}}, ""},
		{api.Eight, []step{{"\xc3", "", 1, 1}}, wrong},
		{api.Eight, []step{{"a\xe2\x82", "a", 2, 1}}, wrong + wrong},
		{api.Eight, []step{{"\xf0\x9f\x98", "", 3, 1}}, wrong + wrong + wrong},
		{api.Auto, []step{{"a\xf0\x9f\x98", "a", 3, 1}}, wrong + wrong + wrong},
		{api.Auto, []step{{"\xef\xbb\xbf\xf0\x9f\x98", "", 3, 1}}, wrong + wrong + wrong},
		// Wrong itself is one, too.
		{api.Eight, []step{{"\xef\xbf", "", 2, 1}, {"\xbd", wrong, 0, 1}}, ""},
	} {
		follow(t, c)
	}
}

func TestUnitsOfCodePoints(t *testing.T) {
	face := "\xf0\x9f\x98\x80"
	for _, c := range []course{
		{api.Low, []step{{"\xac", "", 1, 2}, {"\x20", "\xe2\x82\xac", 0, 2}}, ""},
		{api.High, []step{{"\x20", "", 1, 3}, {"\xac", "\xe2\x82\xac", 0, 3}}, ""},
		{api.Low, []step{{"\x3d", "", 1, 2}, {"\xd8", "", 2, 2}, {"\x00", "", 3, 2}, {"\xde", face, 0, 2}}, ""},
		{api.High, []step{{"\xd8", "", 1, 3}, {"\x3d", "", 2, 3}, {"\xde", "", 3, 3}, {"\x00", face, 0, 3}}, ""},
		// A unit that is half, at the end.
		{api.Low, []step{{"a\x00b", "a", 1, 2}}, wrong},
		{api.High, []step{{"\x00a\x00", "a", 1, 3}}, wrong},
		// The greater one of two without the lower, at the end.
		{api.Low, []step{{"\x3d\xd8", "", 2, 2}}, wrong},
		{api.High, []step{{"\xd8\x3d", "", 2, 3}}, wrong},
		{api.Low, []step{{"\x3d\xd8\x41", "", 3, 2}}, wrong + wrong},
		{api.High, []step{{"\xd8\x3d\xde", "", 3, 3}}, wrong + wrong},
		// And before another unit: that none can come that is a lower one, the
		// greater octet tells, which is the second in Low, the first in High.
		{api.Low, []step{{"\x3d\xd8\x41", "", 3, 2}, {"\x00", wrong + "A", 0, 2}}, ""},
		{api.High, []step{{"\xd8\x3d", "", 2, 3}, {"\x00", wrong, 1, 3}, {"\x41", "A", 0, 3}}, ""},
		{api.High, []step{{"\xd8\x3d\x00", wrong, 1, 3}}, wrong},
		{api.Low, []step{{"\x3d\xd8\x3d", "", 3, 2}, {"\xd8", wrong, 2, 2}, {"\x00\xde", face, 0, 2}}, ""},
		{api.High, []step{{"\xd8\x3d", "", 2, 3}, {"\xd8", wrong, 1, 3}, {"\x3d", "", 2, 3}, {"\xde\x00", face, 0, 3}}, ""},
		{api.High, []step{{"\xd8\x3d\xe0", wrong, 1, 3}, {"\x00", "\xee\x80\x80", 0, 3}}, ""},
		{api.High, []step{{"\xd8\x3d\xdb", wrong, 1, 3}}, wrong},
		{api.High, []step{{"\xdb\xff\xdf", "", 3, 3}, {"\xff", "\xf4\x8f\xbf\xbf", 0, 3}}, ""},
		// A lower one without the greater.
		{api.Low, []step{{"\x00\xde", wrong, 0, 2}, {"A\x00", "A", 0, 2}}, ""},
		{api.High, []step{{"\xde\x00\x00A", wrong + "A", 0, 3}}, ""},
		{api.High, []step{{"\xde\x00\xde\x00", wrong + wrong, 0, 3}}, ""},
		{api.High, []step{{"\xde\x00\xd8\x3d", wrong, 2, 3}, {"\xde\x00", face, 0, 3}}, ""},
		// Behind a mark likewise.
		{api.Auto, []step{{"\xff\xfe\x3d\xd8", "", 2, 2}, {"\x00", "", 3, 2}, {"\xde", face, 0, 2}}, ""},
		{api.Auto, []step{{"\xfe\xff\xd8\x3d", "", 2, 3}, {"\x00", wrong, 1, 3}}, wrong},
	} {
		follow(t, c)
	}
}

func TestSettledOfAll(t *testing.T) {
	behinds := behinds()
	for kind := range 4 {
		t.Run(strconv.Itoa(kind), func(t *testing.T) {
			t.Parallel()
			sample.Each(turning(), 3, func(b []byte) {
				d := made(t, kind)
				told := d.Write(b)
				sure, text, held := settled(kind, b, behinds)
				if told != text || d.Held() != held || d.Kind() != sure {
					t.Fatalf("Write(%x) tells %q, Held %d, Kind %d; want %q, %d, %d", b, told, d.Held(), d.Kind(), text, held, sure)
				}
			})
		})
	}
}

// streams are octets in which all that a decoder must tell apart comes.
func streams() []string {
	return []string{
		"", "a", "abc\n",
		"\xef", "\xef\xbb", "\xef\xbb\xbf", "\xff", "\xff\xfe", "\xfe", "\xfe\xff",
		"\xef\xbb\xbfa\xe2\x82\xac\xff", "\xef\xbba\xef\xbb\xbf", "\xef\xbb\xbf\xef\xbb\xbf\xff\xfe",
		"a\x80\xe2\x82b\xf0\x9f\x98", "\xf0\x9f\x98\x80\xed\xa0\x80\xc0\x80", "\xf4\x90\x80\x80\xe0\x9f\xbf\xc3",
		"\xff\xfea\x00\x3d\xd8\x00\xde\x3d", "\xff\xfe\x3d\xd8\x3d\xd8\x00\xde", "\xff\xfe\x00\xde\x3d\xd8a",
		"\xfe\xff\x00a\xd8\x3d\xde\x00\xd8", "\xfe\xff\xd8\x3d\xd8\x3d\xde\x00", "\xfe\xff\xde\x00\xd8\x3d\x00",
		"\x3d\xd8\xdc\xd8\xd8\xdc\xdc\xde", "\xd8\xd8\xd8\xdc\xdc\xd8\xdc\xdc\xdc",
	}
}

func TestEachWrite(t *testing.T) {
	behinds := behinds()
	for _, s := range streams() {
		for kind := range 4 {
			d, all := made(t, kind), ""
			for n := range len(s) {
				all += d.Write([]byte(s[n : n+1]))
				sure, text, held := settled(kind, []byte(s[:n+1]), behinds)
				if all != text || d.Held() != held || d.Kind() != sure {
					t.Fatalf("New(%d), %x: %q, Held %d, Kind %d; want %q, %d, %d", kind, s[:n+1], all, d.Held(), d.Kind(), text, held, sure)
				}
			}
		}
	}
}

func TestWriteOfNone(t *testing.T) {
	for _, s := range streams() {
		for kind := range 4 {
			d := made(t, kind)
			all := ""
			for n := range len(s) + 1 {
				held, sure := d.Held(), d.Kind()
				for _, none := range [][]byte{nil, {}, []byte(s)[n:n]} {
					if told := d.Write(none); told != "" || d.Held() != held || d.Kind() != sure {
						t.Fatalf("New(%d), %x, Write of none: %q, Held %d, Kind %d", kind, s[:n], told, d.Held(), d.Kind())
					}
				}
				if n < len(s) {
					all += d.Write([]byte{s[n]})
				}
			}
			if all += d.Close(); all != decode.Text(kind, []byte(s)) {
				t.Errorf("New(%d), %x with Writes of none: %q", kind, s, all)
			}
		}
	}
}

func TestBehindClose(t *testing.T) {
	for _, s := range streams() {
		for kind := range 4 {
			sure := plain(kind, []byte(s)).kind
			d := made(t, kind)
			d.Write([]byte(s))
			d.Close()
			for _, more := range []string{"", "a", "\xff\xfe", "\xfe\xff\x00a", "\xef\xbb\xbf", "\xe2\x82\xac", "\x00\xde", "\xd8"} {
				told, last := d.Write([]byte(more)), d.Close()
				if told != "" || last != "" || d.Held() != 0 || d.Kind() != sure {
					t.Errorf("New(%d), %x, Close, %x: %q, %q, Held %d, Kind %d", kind, s, more, told, last, d.Held(), d.Kind())
				}
			}
		}
	}
}

func TestCloseAtOnce(t *testing.T) {
	for kind, want := range []int{api.Eight, api.Eight, api.Low, api.High} {
		d := made(t, kind)
		if last := d.Close(); last != "" || d.Held() != 0 || d.Kind() != want {
			t.Errorf("New(%d), Close: %q, Held %d, Kind %d", kind, last, d.Held(), d.Kind())
		}
		if told := d.Write([]byte("a\x00a")); told != "" || d.Held() != 0 || d.Kind() != want {
			t.Errorf("New(%d), Close, Write: %q, Held %d, Kind %d", kind, told, d.Held(), d.Kind())
		}
	}
}

func TestDecodersStandAlone(t *testing.T) {
	one, other := made(t, api.Auto), made(t, api.Auto)
	one.Write([]byte("\xff"))
	other.Write([]byte("\xfe"))
	one.Write([]byte("\xfeA"))
	other.Write([]byte("\xff\x00"))
	if one.Kind() != api.Low || other.Kind() != api.High {
		t.Errorf("Kind %d, %d", one.Kind(), other.Kind())
	}
	one.Close()
	if told := other.Write([]byte("B")); told != "B" || one.Held() != 0 || other.Held() != 0 {
		t.Errorf("%q, Held %d, %d", told, one.Held(), other.Held())
	}
}

// P3.2

func TestTextAtEdges(t *testing.T) {
	for _, c := range []struct {
		b     string
		texts [4]string
	}{
		{"", [4]string{}},
		{"a", [4]string{"a", "a", wrong, wrong}},
		{"ab", [4]string{"ab", "ab", "\xe6\x89\xa1", "\xe6\x85\xa2"}},
		{"\xef\xbb\xbfa", [4]string{"a", "\xef\xbb\xbfa", "\xeb\xaf\xaf\xe6\x86\xbf", "\xee\xbe\xbb\xeb\xbd\xa1"}},
		{"\xef\xbb\xbf", [4]string{"", "\xef\xbb\xbf", "\xeb\xaf\xaf" + wrong, "\xee\xbe\xbb" + wrong}},
		{"\xef\xbb", [4]string{wrong + wrong, wrong + wrong, "\xeb\xaf\xaf", "\xee\xbe\xbb"}},
		{"\xff\xfe", [4]string{"", wrong + wrong, "\xef\xbb\xbf", "\xef\xbf\xbe"}},
		{"\xfe\xff", [4]string{"", wrong + wrong, "\xef\xbf\xbe", "\xef\xbb\xbf"}},
		{"\xff", [4]string{wrong, wrong, wrong, wrong}},
		{"\xff\xfeA\x00", [4]string{"A", wrong + wrong + "A\x00", "\xef\xbb\xbfA", "\xef\xbf\xbe\xe4\x84\x80"}},
		{"\xfe\xff\x00A", [4]string{"A", wrong + wrong + "\x00A", "\xef\xbf\xbe\xe4\x84\x80", "\xef\xbb\xbfA"}},
		{"\xe2\x82\xac", [4]string{"\xe2\x82\xac", "\xe2\x82\xac", "\xe8\x8b\xa2" + wrong, "\xee\x8a\x82" + wrong}},
		{"a\x80\xe2\x82b", [4]string{"a" + wrong + wrong + wrong + "b", "a" + wrong + wrong + wrong + "b", "\xe8\x81\xa1\xe8\x8b\xa2" + wrong, "\xe6\x86\x80\xee\x8a\x82" + wrong}},
	} {
		for kind, want := range c.texts {
			if s := decode.Text(kind, []byte(c.b)); s != want {
				t.Errorf("Text(%d, %x) = %q; want %q", kind, c.b, s, want)
			}
		}
	}
}

func TestTextOfNil(t *testing.T) {
	for kind := range 4 {
		if s := decode.Text(kind, nil); s != "" {
			t.Errorf("Text(%d, nil) = %q", kind, s)
		}
	}
}

func TestTextOfStrayKinds(t *testing.T) {
	for _, kind := range sample.StrayKinds() {
		for _, b := range []string{"", "a", "ab", "\xff\xfea\x00", "\xff"} {
			if s := decode.Text(kind, []byte(b)); s != "" {
				t.Errorf("Text(%d, %x) = %q", kind, b, s)
			}
		}
	}
}

// TestTextOfAllCodePoints: in each encoding, and with its mark ahead.
func TestTextOfAllCodePoints(t *testing.T) {
	var rs []int
	var want []byte
	for r := range 0x110000 {
		if code.Is(r) {
			rs = append(rs, r)
			want = utf8.AppendRune(want, rune(r))
		}
	}
	for _, kind := range []int{api.Eight, api.Low, api.High} {
		b := order.Encode(kind, rs...)
		marked := append(order.Encode(kind, 0xfeff), b...)
		if decode.Text(kind, b) != string(want) {
			t.Errorf("Text(%d, ..) isn't what was encoded", kind)
		}
		if decode.Text(api.Auto, marked) != string(want) {
			t.Errorf("Text(Auto, ..) isn't what was encoded, of kind %d", kind)
		}
		if decode.Text(kind, marked) != "\xef\xbb\xbf"+string(want) {
			t.Errorf("Text(%d, ..) leaves the mark out", kind)
		}
	}
	if decode.Text(api.Auto, want) != string(want) {
		t.Error("Text(Auto, ..) isn't what was encoded without a mark")
	}
}

// P3.2 and P3.3

// TestTextOfAll: at once, octet by octet, and cut in two at every place.
func TestTextOfAll(t *testing.T) {
	octets := []byte{0x00, 0x41, 0x80, 0xbb, 0xbf, 0xd8, 0xdc, 0xe2, 0xef, 0xf0, 0xfe, 0xff}
	for kind := range 4 {
		t.Run(strconv.Itoa(kind), func(t *testing.T) {
			t.Parallel()
			sample.Each(octets, 4, func(b []byte) {
				want, _ := plain(kind, b).text()
				if s := decode.Text(kind, b); s != want {
					t.Fatalf("Text(%d, %x) = %q; want %q", kind, b, s, want)
				}
				if s := apart(t, kind, single(b)...); s != want {
					t.Fatalf("New(%d), %x octet by octet: %q; want %q", kind, b, s, want)
				}
				for n := range b {
					if s := apart(t, kind, b[:n], b[n:]); s != want {
						t.Fatalf("New(%d), %x, %x: %q; want %q", kind, b[:n], b[n:], s, want)
					}
				}
			})
		})
	}
}

// P3.3

func TestEveryCut(t *testing.T) {
	for _, s := range streams() {
		b := []byte(s)
		for kind := range 4 {
			want := decode.Text(kind, b)
			for bits := range 1 << max(len(b)-1, 0) {
				if got := apart(t, kind, sample.Pieces(b, bits)...); got != want {
					t.Fatalf("New(%d), %x: %q; want %q", kind, sample.Pieces(b, bits), got, want)
				}
			}
		}
	}
}

func TestLongStreams(t *testing.T) {
	b := make([]byte, 0, 20000)
	for n := range 10000 {
		b = append(b, turning()[n*n%19], byte(n*7))
	}
	for _, mark := range []string{"", "\xef\xbb\xbf", "\xff\xfe", "\xfe\xff"} {
		b := append([]byte(mark), b...)
		for kind := range 4 {
			want, _ := plain(kind, b).text()
			if decode.Text(kind, b) != want {
				t.Errorf("Text(%d, ..) with the mark %x", kind, mark)
			}
			for _, n := range []int{1, 2, 3, 5, 7, 64, 4095, 4096} {
				if apart(t, kind, slices.Collect(slices.Chunk(b, n))...) != want {
					t.Errorf("New(%d), by %d octets, with the mark %x", kind, n, mark)
				}
			}
		}
	}
}

func TestWhatIsHandedInStays(t *testing.T) {
	for _, s := range streams() {
		for kind := range 5 {
			whole, b := sample.WithRoom([]byte(s))
			decode.Text(kind, b)
			if kind < 4 {
				for n := range b {
					apart(t, kind, b[:n], b[n:])
				}
			}
			if string(whole) != s+"UUUU" {
				t.Errorf("kind %d: %x became %x", kind, s, whole)
			}
		}
	}
}

// TestWhatIsHandedInIsNotKept: the same memory comes with each Write.
func TestWhatIsHandedInIsNotKept(t *testing.T) {
	for _, s := range streams() {
		for kind := range 4 {
			for _, n := range []int{1, 2, 3} {
				d := made(t, kind)
				lent := make([]byte, n, n+4)
				told := ""
				for piece := range slices.Chunk([]byte(s), n) {
					told += d.Write(lent[:copy(lent, piece)])
					sample.Spoil(lent)
				}
				if told += d.Close(); told != decode.Text(kind, []byte(s)) {
					t.Errorf("New(%d), %x by %d: %q", kind, s, n, told)
				}
			}
		}
	}
}

// TestSpareRoomIsNotLooked: what lies behind b, in its spare room, is no part of it.
func TestSpareRoomIsNotLooked(t *testing.T) {
	for _, c := range []struct {
		kind int
		b    string
	}{
		{api.Auto, "\xef\xbb\xbf"}, {api.Auto, "\xff\xfe"}, {api.Auto, "\xfe\xff"},
		{api.Eight, "\xe2\x82\xac"}, {api.Eight, "\xf0\x9f\x98\x80"},
		{api.Low, "\x3d\xd8\x00\xde"}, {api.High, "\xd8\x3d\xde\x00"},
	} {
		b := []byte(c.b)
		n := len(b) - 1
		d := made(t, c.kind)
		if told := d.Write(b[:n]); told != "" || d.Held() != n {
			t.Errorf("New(%d), %x of %x: %q, Held %d", c.kind, b[:n], b, told, d.Held())
		}
	}
}
