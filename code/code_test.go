package code_test

import (
	"bytes"
	"math"
	"slices"
	"testing"
	"unicode/utf16"
	"unicode/utf8"

	"reedbed/api"
	"reedbed/code"
	"reedbed/sample"
)

// edge is a code point at an edge, with its octets and units.
type edge struct {
	r      int
	octets string
	units  []int
}

func edges() []edge {
	return []edge{
		{0, "\x00", []int{0}},
		{0x7f, "\x7f", []int{0x7f}},
		{0x80, "\xc2\x80", []int{0x80}},
		{0x7ff, "\xdf\xbf", []int{0x7ff}},
		{0x800, "\xe0\xa0\x80", []int{0x800}},
		{0x20ac, "\xe2\x82\xac", []int{0x20ac}},
		{0xd7ff, "\xed\x9f\xbf", []int{0xd7ff}},
		{0xe000, "\xee\x80\x80", []int{0xe000}},
		{api.Wrong, "\xef\xbf\xbd", []int{0xfffd}},
		{0xffff, "\xef\xbf\xbf", []int{0xffff}},
		{0x10000, "\xf0\x90\x80\x80", []int{0xd800, 0xdc00}},
		{0x103ff, "\xf0\x90\x8f\xbf", []int{0xd800, 0xdfff}},
		{0x10400, "\xf0\x90\x90\x80", []int{0xd801, 0xdc00}},
		{0x1f600, "\xf0\x9f\x98\x80", []int{0xd83d, 0xde00}},
		{0x10ffff, "\xf4\x8f\xbf\xbf", []int{0xdbff, 0xdfff}},
	}
}

// octets are those at which the answers turn, first ones and others.
func octets() []byte {
	return []byte{
		0x00, 0x41, 0x7f, 0x80, 0x8f, 0x90, 0x9f, 0xa0, 0xbf,
		0xc0, 0xc1, 0xc2, 0xdf, 0xe0, 0xe1, 0xec, 0xed, 0xee, 0xef,
		0xf0, 0xf1, 0xf3, 0xf4, 0xf5, 0xf7, 0xf8, 0xfb, 0xfc, 0xfe, 0xff,
	}
}

// P1.1

func TestPutAtEdges(t *testing.T) {
	for _, e := range edges() {
		if !code.Is(e.r) {
			t.Errorf("Is(%x) is false", e.r)
		}
		if n := code.Size(e.r); n != len(e.octets) {
			t.Errorf("Size(%x) is %d", e.r, n)
		}
		if b := code.Put(e.r); string(b) != e.octets {
			t.Errorf("Put(%x) is % x", e.r, b)
		}
	}
}

func TestPutOfWhatIsNoCodePoint(t *testing.T) {
	for _, r := range sample.Strays() {
		if code.Is(r) {
			t.Errorf("Is(%x) is true", r)
		}
		if n := code.Size(r); n != 0 {
			t.Errorf("Size(%x) is %d", r, n)
		}
		if b := code.Put(r); string(b) != "\xef\xbf\xbd" {
			t.Errorf("Put(%x) is % x", r, b)
		}
	}
}

func TestPutOfAllNumbers(t *testing.T) {
	for r := -2; r <= 0x110001; r++ {
		is := utf8.ValidRune(rune(r))
		size := max(utf8.RuneLen(rune(r)), 0)
		put := utf8.AppendRune(nil, rune(r))
		if code.Is(r) != is || code.Size(r) != size || !bytes.Equal(code.Put(r), put) {
			t.Fatalf("%x: %v, %d, % x", r, code.Is(r), code.Size(r), code.Put(r))
		}
	}
}

// P1.2

func TestGetAtEdges(t *testing.T) {
	for _, e := range edges() {
		for _, more := range []string{"", "x", "\x80", "\xff", "\xe2\x82\xac"} {
			if r, n := code.Get([]byte(e.octets + more)); r != e.r || n != len(e.octets) {
				t.Errorf("Get(% x) is %x, %d", e.octets+more, r, n)
			}
		}
	}
}

func TestGetOfWhatIsNone(t *testing.T) {
	wrong := []string{
		"\x80", "\xbf", "\xbfx", // first ones that only stand behind
		"\xc0\x80", "\xc1\xbf", // fewer would do
		"\xe0\x80\x80", "\xe0\x9f\xbf",
		"\xf0\x80\x80\x80", "\xf0\x8f\xbf\xbf",
		"\xed\xa0\x80", "\xed\xbf\xbf", // no code points
		"\xf4\x90\x80\x80", "\xf5\x80\x80\x80", "\xf7\xbf\xbf\xbf",
		"\xf8\x88\x80\x80\x80", "\xfc\x84\x80\x80\x80\x80", "\xfe", "\xff",
		"\xc2", "\xe2", "\xe2\x82", "\xf0", "\xf0\x9f", "\xf0\x9f\x98", // too few
		"\xc2x", "\xc2\xc2", "\xe2x\xac", "\xe2\x82x", "\xe2\x82\xe2",
		"\xf0x\x98\x80", "\xf0\x9fx\x80", "\xf0\x9f\x98x", "\xf0\x9f\x98\xc0",
	}
	for _, s := range wrong {
		if r, n := code.Get([]byte(s)); r != api.Wrong || n != 1 {
			t.Errorf("Get(% x) is %x, %d", s, r, n)
		}
	}
	for _, b := range [][]byte{nil, {}, []byte("a")[:0]} {
		if r, n := code.Get(b); r != api.Wrong || n != 0 {
			t.Errorf("Get of nothing is %x, %d", r, n)
		}
	}
}

func TestGetOfMany(t *testing.T) {
	sample.Each(octets(), 4, func(b []byte) {
		want, size := utf8.DecodeRune(b)
		if r, n := code.Get(b); r != int(want) || n != size {
			t.Fatalf("Get(% x) is %x, %d", b, r, n)
		}
	})
}

func TestOpen(t *testing.T) {
	open := []string{
		"", "\xc2", "\xdf", "\xe0", "\xe0\xa0", "\xe0\xbf", "\xe2", "\xe2\x82",
		"\xed", "\xed\x80", "\xed\x9f", "\xee\x80", "\xef\xbf",
		"\xf0", "\xf0\x90", "\xf0\x90\x80", "\xf0\xbf", "\xf1\x80\x80",
		"\xf4", "\xf4\x80", "\xf4\x8f", "\xf4\x8f\xbf",
	}
	for _, s := range open {
		if !code.Open([]byte(s)) {
			t.Errorf("Open(% x) is false", s)
		}
	}
	if !code.Open(nil) {
		t.Error("Open(nil) is false")
	}
	shut := []string{
		"a", "\x00", "\x7f", "ab", "\x80", "\xbf", "\xc0", "\xc1", "\xc2x", "\xc2\xc2",
		"\xe0\x80", "\xe0\x9f", "\xe2x", "\xe2\xe2", "\xed\xa0", "\xed\xbf",
		"\xf0\x80", "\xf0\x8f", "\xf0\x8f\xbf", "\xf0\x90x", "\xf0\x90\xc0",
		"\xf4\x90", "\xf4\x90\x80", "\xf5", "\xf7", "\xf8", "\xfe", "\xff",
		"\xc2\x80\xc2", "\xe2\x82\xac\xe2", "\xf0\x9f\x98\x80\xf0",
	}
	for _, s := range shut {
		if code.Open([]byte(s)) {
			t.Errorf("Open(% x) is true", s)
		}
	}
	for _, e := range edges() {
		for n := range len(e.octets) {
			if !code.Open([]byte(e.octets[:n])) {
				t.Errorf("Open(% x) is false", e.octets[:n])
			}
		}
		if code.Open([]byte(e.octets)) {
			t.Errorf("Open(% x) is true", e.octets)
		}
	}
}

func TestOpenOfMany(t *testing.T) {
	open := map[string]bool{}
	for r := range 0x110000 {
		if !utf8.ValidRune(rune(r)) {
			continue
		}
		s := string(rune(r))
		for n := range len(s) {
			open[s[:n]] = true
		}
	}
	see := func(b []byte) {
		if code.Open(b) != open[string(b)] {
			t.Fatalf("Open(% x) is %v", b, code.Open(b))
		}
	}
	sample.Each(octets(), 4, see)
	var all []byte
	for c := range 256 {
		all = append(all, byte(c))
	}
	sample.Each(all, 2, see)
}

// P1.3

func TestUnitsAtEdges(t *testing.T) {
	for _, e := range edges() {
		if us := code.Units(e.r); !slices.Equal(us, e.units) {
			t.Errorf("Units(%x) is %x", e.r, us)
		}
		for _, more := range [][]int{nil, {65}, {0xd800}, {0xdc00}, {-1}} {
			if r, n := code.Join(slices.Concat(e.units, more)...); r != e.r || n != len(e.units) {
				t.Errorf("Join(%x, %x) is %x, %d", e.units, more, r, n)
			}
		}
	}
}

func TestUnitsOfWhatIsNoCodePoint(t *testing.T) {
	for _, r := range sample.Strays() {
		if us := code.Units(r); !slices.Equal(us, []int{0xfffd}) {
			t.Errorf("Units(%x) is %x", r, us)
		}
	}
}

func TestUnitsOfAllNumbers(t *testing.T) {
	for r := -2; r <= 0x110001; r++ {
		var want []int
		for _, u := range utf16.Encode([]rune{rune(r)}) {
			want = append(want, int(u))
		}
		if us := code.Units(r); !slices.Equal(us, want) {
			t.Fatalf("Units(%x) is %x", r, us)
		}
	}
}

func TestJoinOfWhatIsNone(t *testing.T) {
	wrong := [][]int{
		{0xdc00}, {0xdfff}, {0xdc00, 0xd800}, {0xde00, 65}, {0xde00, 0xde00}, // a lower one alone
		{0xd800}, {0xdbff}, {0xd83d, 65}, {0xd83d, 0xd83d}, {0xd83d, 0xe000}, {0xd83d, 0xdbff}, // a greater one without
		{0xd83d, -1}, {0xd83d, 0x1de00}, {0xd83d, 65, 0xde00},
		{0x10000}, {0x1f600}, {0x10ffff}, {0x1d83d, 0xde00}, {-1}, {-1, 65}, // no units
		{math.MinInt}, {math.MaxInt}, {math.MaxInt, math.MinInt}, {0xd800, math.MaxInt}, {0xd800, math.MinInt},
	}
	for _, us := range wrong {
		if r, n := code.Join(us...); r != api.Wrong || n != 1 {
			t.Errorf("Join(%x) is %x, %d", us, r, n)
		}
	}
	if r, n := code.Join(); r != api.Wrong || n != 0 {
		t.Errorf("Join() is %x, %d", r, n)
	}
	if r, n := code.Join([]int{}...); r != api.Wrong || n != 0 {
		t.Errorf("Join of nothing is %x, %d", r, n)
	}
}

func TestJoinOfMany(t *testing.T) {
	behind := []int{0, 65, 0xd7ff, 0xd800, 0xdbff, 0xdc00, 0xdc01, 0xdfff, 0xe000, 0xffff}
	for u := range 0x10000 {
		for _, v := range behind {
			want, size := int(utf16.DecodeRune(rune(u), rune(v))), 2
			if want == api.Wrong {
				want, size = int(utf16.Decode([]uint16{uint16(u)})[0]), 1
			}
			if r, n := code.Join(u, v); r != want || n != size {
				t.Fatalf("Join(%x, %x) is %x, %d", u, v, r, n)
			}
		}
	}
}

// P1.4

func TestThereAndBack(t *testing.T) {
	for r := range 0x110000 {
		if !code.Is(r) {
			continue
		}
		b, us := code.Put(r), code.Units(r)
		if x, n := code.Get(b); x != r || n != len(b) {
			t.Fatalf("Get(% x) is %x, %d", b, x, n)
		}
		if x, n := code.Join(us...); x != r || n != len(us) {
			t.Fatalf("Join(%x) is %x, %d", us, x, n)
		}
	}
}

func TestAnswersAreNewMemory(t *testing.T) {
	for _, r := range []int{65, 0xe9, 0x20ac, 0x1f600, -1, 0xd800} {
		b, us := code.Put(r), code.Units(r)
		octets, units := slices.Clone(b), slices.Clone(us)
		other, others := code.Put(r), code.Units(r)
		clear(b[:cap(b)])
		clear(us[:cap(us)])
		if !bytes.Equal(other, octets) || !bytes.Equal(code.Put(r), octets) {
			t.Errorf("Put(%x) shares memory", r)
		}
		if !slices.Equal(others, units) || !slices.Equal(code.Units(r), units) {
			t.Errorf("Units(%x) shares memory", r)
		}
	}
}

func TestWhatIsHandedIn(t *testing.T) {
	for _, s := range []string{"\xf0\x9f\x98\x80x", "\xe2\x82\xac", "\xc2", "\xff\xff"} {
		for n := range len(s) + 1 {
			b := []byte(s)
			code.Get(b[:n])
			code.Open(b[:n])
			if string(b) != s {
				t.Errorf("% x was changed", s)
			}
		}
	}
	us := []int{0xd83d, 0xde00, 65, -1}
	for n := range len(us) + 1 {
		code.Join(us[:n]...)
	}
	if !slices.Equal(us, []int{0xd83d, 0xde00, 65, -1}) {
		t.Error("units were changed")
	}
}

func TestSpareRoomIsNotSeen(t *testing.T) {
	b := []byte("\xe2\x82\xac")
	if r, n := code.Get(b[:2]); r != api.Wrong || n != 1 {
		t.Errorf("Get is %x, %d", r, n)
	}
	if !code.Open(b[:2]) {
		t.Error("Open is false")
	}
	us := []int{0xd83d, 0xde00}
	if r, n := code.Join(us[:1]...); r != api.Wrong || n != 1 {
		t.Errorf("Join is %x, %d", r, n)
	}
}

func TestNothingIsKept(t *testing.T) {
	b, us := []byte("\xe2\x82\xac"), []int{0xd83d, 0xde00}
	code.Get(b)
	code.Join(us...)
	b[2], us[1] = 0xad, 0xde01
	if r, n := code.Get(b); r != 0x20ad || n != 3 {
		t.Errorf("Get is %x, %d", r, n)
	}
	if r, n := code.Join(us...); r != 0x1f601 || n != 2 {
		t.Errorf("Join is %x, %d", r, n)
	}
}
