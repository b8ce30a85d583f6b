package order_test

import (
	"bytes"
	"encoding/binary"
	"math"
	"slices"
	"testing"
	"unicode/utf16"
	"unicode/utf8"

	"reedbed/api"
	"reedbed/code"
	"reedbed/order"
	"reedbed/sample"
)

// unitless are the kinds that have no units of 16 bits.
func unitless() []int {
	return append(sample.StrayKinds(), api.Auto, api.Eight)
}

// turning are the octets of the marks, and some beside them.
func turning() []byte {
	return []byte{0x00, 0x41, 0xba, 0xbb, 0xbc, 0xbe, 0xbf, 0xee, 0xef, 0xf0, 0xfd, 0xfe, 0xff}
}

// plain is Mark, told by the document's words alone.
func plain(b []byte) (int, int) {
	switch {
	case bytes.HasPrefix(b, []byte{0xef, 0xbb, 0xbf}):
		return 1, 3
	case bytes.HasPrefix(b, []byte{0xff, 0xfe}):
		return 2, 2
	case bytes.HasPrefix(b, []byte{0xfe, 0xff}):
		return 3, 2
	}
	return 0, 0
}

// P2.1

func TestMarkAtEdges(t *testing.T) {
	for _, c := range []struct {
		b       string
		kind, n int
		sure    bool
	}{
		{"", api.Auto, 0, false},
		{"\xef", api.Auto, 0, false},
		{"\xef\xbb", api.Auto, 0, false},
		{"\xef\xbb\xbf", api.Eight, 3, true},
		{"\xef\xbb\xbfa", api.Eight, 3, true},
		{"\xef\xbb\xbf\xef\xbb\xbf", api.Eight, 3, true},
		{"\xff", api.Auto, 0, false},
		{"\xff\xfe", api.Low, 2, true},
		{"\xff\xfe\x41\x00", api.Low, 2, true},
		{"\xff\xfe\x00\x00", api.Low, 2, true},
		{"\xff\xfe\xff", api.Low, 2, true},
		{"\xfe", api.Auto, 0, false},
		{"\xfe\xff", api.High, 2, true},
		{"\xfe\xff\x00\x41", api.High, 2, true},
		{"\xfe\xff\xfe", api.High, 2, true},
		{"a", api.Auto, 0, true},
		{"\x00", api.Auto, 0, true},
		{"\xbb\xbf", api.Auto, 0, true},
		{"\xef\xbf", api.Auto, 0, true},
		{"\xef\xbb\xbe", api.Auto, 0, true},
		{"\xef\xfe", api.Auto, 0, true},
		{"\xff\xff", api.Auto, 0, true},
		{"\xfe\xfe", api.Auto, 0, true},
		{"\xff\xbb\xbf", api.Auto, 0, true},
		{"a\xff\xfe", api.Auto, 0, true},
		{"a\xef\xbb\xbf", api.Auto, 0, true},
		{"\x00\x00\xfe\xff", api.Auto, 0, true},
	} {
		if kind, n := order.Mark([]byte(c.b)); kind != c.kind || n != c.n {
			t.Errorf("Mark(%x) = %d, %d; want %d, %d", c.b, kind, n, c.kind, c.n)
		}
		if sure := order.Sure([]byte(c.b)); sure != c.sure {
			t.Errorf("Sure(%x) = %t", c.b, sure)
		}
	}
}

func TestNil(t *testing.T) {
	if kind, n := order.Mark(nil); kind != api.Auto || n != 0 {
		t.Errorf("Mark(nil) = %d, %d", kind, n)
	}
	if order.Sure(nil) {
		t.Error("Sure(nil) = true")
	}
}

func TestMarkOfAll(t *testing.T) {
	sample.Each(turning(), 4, func(b []byte) {
		kind, n := order.Mark(b)
		if k, m := plain(b); kind != k || n != m {
			t.Fatalf("Mark(%x) = %d, %d; want %d, %d", b, kind, n, k, m)
		}
	})
}

func TestMarkOfThreeOctets(t *testing.T) {
	b := make([]byte, 3)
	for x := range 1 << 24 {
		b[0], b[1], b[2] = byte(x), byte(x>>8), byte(x>>16)
		kind, n := order.Mark(b)
		if k, m := plain(b); kind != k || n != m {
			t.Fatalf("Mark(%x) = %d, %d; want %d, %d", b, kind, n, k, m)
		}
		if !order.Sure(b) {
			t.Fatalf("Sure(%x) = false", b)
		}
	}
}

// staysMarked: does the mark stay the same, whatever of those octets comes behind?
func staysMarked(b []byte) bool {
	kind, n := plain(b)
	same := true
	sample.Each(turning(), 3, func(behind []byte) {
		k, m := plain(slices.Concat(b, behind))
		same = same && k == kind && m == n
	})
	return same
}

func TestSureOfAll(t *testing.T) {
	sample.Each(turning(), 3, func(b []byte) {
		if want := staysMarked(b); order.Sure(b) != want {
			t.Fatalf("Sure(%x) = %t", b, !want)
		}
	})
}

func TestSureOfEachOctetAlone(t *testing.T) {
	for c := range 256 {
		want := c != 0xef && c != 0xfe && c != 0xff
		if order.Sure([]byte{byte(c)}) != want {
			t.Errorf("Sure(%x) = %t", c, !want)
		}
	}
}

// P2.2

func TestUnitsAtEdges(t *testing.T) {
	for _, c := range []struct {
		b         []byte
		low, high []int
	}{
		{nil, nil, nil},
		{[]byte{}, nil, nil},
		{[]byte{0x12}, nil, nil},
		{[]byte{0x12, 0x34}, []int{0x3412}, []int{0x1234}},
		{[]byte{0x12, 0x34, 0x56}, []int{0x3412}, []int{0x1234}},
		{[]byte{0x12, 0x34, 0x56, 0x78}, []int{0x3412, 0x7856}, []int{0x1234, 0x5678}},
		{[]byte{0x12, 0x34, 0x56, 0x78, 0xff}, []int{0x3412, 0x7856}, []int{0x1234, 0x5678}},
		{[]byte{0, 0, 0xff, 0xff}, []int{0, 0xffff}, []int{0, 0xffff}},
		{[]byte{0, 0x80, 0x80, 0}, []int{0x8000, 0x80}, []int{0x80, 0x8000}},
		{[]byte{0xff, 0xfe, 0x41, 0}, []int{0xfeff, 0x41}, []int{0xfffe, 0x4100}},
		{[]byte{0xfe, 0xff, 0, 0x41}, []int{0xfffe, 0x4100}, []int{0xfeff, 0x41}},
		{[]byte{0x3d, 0xd8, 0, 0xde}, []int{0xd83d, 0xde00}, []int{0x3dd8, 0xde}},
	} {
		if us := order.Units(api.Low, c.b); !slices.Equal(us, c.low) {
			t.Errorf("Units(Low, %x) = %x; want %x", c.b, us, c.low)
		}
		if us := order.Units(api.High, c.b); !slices.Equal(us, c.high) {
			t.Errorf("Units(High, %x) = %x; want %x", c.b, us, c.high)
		}
	}
}

func TestUnitsOfAll(t *testing.T) {
	for x := range 1 << 16 {
		b := []byte{byte(x >> 8), byte(x)}
		if us := order.Units(api.Low, b); !slices.Equal(us, []int{int(binary.LittleEndian.Uint16(b))}) {
			t.Fatalf("Units(Low, %x) = %x", b, us)
		}
		if us := order.Units(api.High, b); !slices.Equal(us, []int{x}) {
			t.Fatalf("Units(High, %x) = %x", b, us)
		}
	}
}

func TestUnitsOfManyOctets(t *testing.T) {
	b := make([]byte, 8193)
	for i := range b {
		b[i] = byte(i * 7)
	}
	low, high := order.Units(api.Low, b), order.Units(api.High, b)
	if len(low) != 4096 || len(high) != 4096 {
		t.Fatalf("%d and %d units", len(low), len(high))
	}
	for i := range low {
		pair := b[2*i : 2*i+2]
		if low[i] != int(binary.LittleEndian.Uint16(pair)) || high[i] != int(binary.BigEndian.Uint16(pair)) {
			t.Fatalf("unit %d: %x, %x", i, low[i], high[i])
		}
	}
}

func TestUnitsOfKindsWithoutUnits(t *testing.T) {
	for _, kind := range unitless() {
		if us := order.Units(kind, []byte{1, 2, 3, 4}); len(us) != 0 {
			t.Errorf("Units(%d, ..) = %x", kind, us)
		}
		if us := order.Units(kind, nil); len(us) != 0 {
			t.Errorf("Units(%d, nil) = %x", kind, us)
		}
	}
}

func TestOctetsAtEdges(t *testing.T) {
	for _, c := range []struct {
		us        []int
		low, high string
	}{
		{nil, "", ""},
		{[]int{}, "", ""},
		{[]int{0}, "\x00\x00", "\x00\x00"},
		{[]int{0x41}, "\x41\x00", "\x00\x41"},
		{[]int{0x100}, "\x00\x01", "\x01\x00"},
		{[]int{0x1234, 0x5678}, "\x34\x12\x78\x56", "\x12\x34\x56\x78"},
		{[]int{0xffff}, "\xff\xff", "\xff\xff"},
		{[]int{0x10000}, "\x00\x00", "\x00\x00"},
		{[]int{0x1ffff}, "\xff\xff", "\xff\xff"},
		{[]int{0x12345678}, "\x78\x56", "\x56\x78"},
		{[]int{1<<32 + 0x4142}, "\x42\x41", "\x41\x42"},
		{[]int{-1}, "\xff\xff", "\xff\xff"},
		{[]int{-2}, "\xfe\xff", "\xff\xfe"},
		{[]int{-0x8000}, "\x00\x80", "\x80\x00"},
		{[]int{-0x10000}, "\x00\x00", "\x00\x00"},
		{[]int{-0x10000 + 0x4142}, "\x42\x41", "\x41\x42"},
		{[]int{math.MinInt, math.MaxInt}, "\x00\x00\xff\xff", "\x00\x00\xff\xff"},
		{[]int{0xd83d, 0xde00}, "\x3d\xd8\x00\xde", "\xd8\x3d\xde\x00"},
		{[]int{0xdc00, 0xd800}, "\x00\xdc\x00\xd8", "\xdc\x00\xd8\x00"},
	} {
		if b := order.Octets(api.Low, c.us...); string(b) != c.low {
			t.Errorf("Octets(Low, %x) = %x; want %x", c.us, b, c.low)
		}
		if b := order.Octets(api.High, c.us...); string(b) != c.high {
			t.Errorf("Octets(High, %x) = %x; want %x", c.us, b, c.high)
		}
	}
}

func TestOctetsOfAll(t *testing.T) {
	for u := -1 << 17; u < 1<<17; u++ {
		if b := order.Octets(api.Low, u); !bytes.Equal(b, binary.LittleEndian.AppendUint16(nil, uint16(u))) {
			t.Fatalf("Octets(Low, %x) = %x", u, b)
		}
		if b := order.Octets(api.High, u); !bytes.Equal(b, binary.BigEndian.AppendUint16(nil, uint16(u))) {
			t.Fatalf("Octets(High, %x) = %x", u, b)
		}
	}
}

func TestOctetsOfKindsWithoutUnits(t *testing.T) {
	for _, kind := range unitless() {
		if b := order.Octets(kind, 0x41, 0x42); len(b) != 0 {
			t.Errorf("Octets(%d, ..) = %x", kind, b)
		}
		if b := order.Octets(kind); len(b) != 0 {
			t.Errorf("Octets(%d) = %x", kind, b)
		}
	}
}

// P2.3

func TestEncodeAtEdges(t *testing.T) {
	for _, c := range []struct {
		r                int
		eight, low, high string
	}{
		{0, "\x00", "\x00\x00", "\x00\x00"},
		{0x41, "A", "A\x00", "\x00A"},
		{0x7f, "\x7f", "\x7f\x00", "\x00\x7f"},
		{0x80, "\xc2\x80", "\x80\x00", "\x00\x80"},
		{0x7ff, "\xdf\xbf", "\xff\x07", "\x07\xff"},
		{0x800, "\xe0\xa0\x80", "\x00\x08", "\x08\x00"},
		{0x20ac, "\xe2\x82\xac", "\xac\x20", "\x20\xac"},
		{0xd7ff, "\xed\x9f\xbf", "\xff\xd7", "\xd7\xff"},
		{0xe000, "\xee\x80\x80", "\x00\xe0", "\xe0\x00"},
		{0xfeff, "\xef\xbb\xbf", "\xff\xfe", "\xfe\xff"},
		{0xfffd, "\xef\xbf\xbd", "\xfd\xff", "\xff\xfd"},
		{0xfffe, "\xef\xbf\xbe", "\xfe\xff", "\xff\xfe"},
		{0xffff, "\xef\xbf\xbf", "\xff\xff", "\xff\xff"},
		{0x10000, "\xf0\x90\x80\x80", "\x00\xd8\x00\xdc", "\xd8\x00\xdc\x00"},
		{0x1f600, "\xf0\x9f\x98\x80", "\x3d\xd8\x00\xde", "\xd8\x3d\xde\x00"},
		{0x10ffff, "\xf4\x8f\xbf\xbf", "\xff\xdb\xff\xdf", "\xdb\xff\xdf\xff"},
	} {
		for kind, want := range []string{c.eight, c.eight, c.low, c.high} {
			if b := order.Encode(kind, c.r); string(b) != want {
				t.Errorf("Encode(%d, %x) = %x; want %x", kind, c.r, b, want)
			}
		}
	}
}

func TestEncodeOfStrays(t *testing.T) {
	wrong := []string{"\xef\xbf\xbd", "\xef\xbf\xbd", "\xfd\xff", "\xff\xfd"}
	for _, r := range sample.Strays() {
		for kind, want := range wrong {
			if b := order.Encode(kind, r); string(b) != want {
				t.Errorf("Encode(%d, %x) = %x; want %x", kind, r, b, want)
			}
		}
	}
}

func TestEncodeOfSeveral(t *testing.T) {
	rs := []int{0x41, -1, 0x1f600, 0xd83d, 0xde00, 0x20ac}
	for kind, want := range []string{
		"A\xef\xbf\xbd\xf0\x9f\x98\x80\xef\xbf\xbd\xef\xbf\xbd\xe2\x82\xac",
		"A\xef\xbf\xbd\xf0\x9f\x98\x80\xef\xbf\xbd\xef\xbf\xbd\xe2\x82\xac",
		"A\x00\xfd\xff\x3d\xd8\x00\xde\xfd\xff\xfd\xff\xac\x20",
		"\x00A\xff\xfd\xd8\x3d\xde\x00\xff\xfd\xff\xfd\x20\xac",
	} {
		if b := order.Encode(kind, rs...); string(b) != want {
			t.Errorf("Encode(%d, %x) = %x; want %x", kind, rs, b, want)
		}
	}
}

func TestEncodeOfNone(t *testing.T) {
	for kind := range 4 {
		if b := order.Encode(kind); len(b) != 0 {
			t.Errorf("Encode(%d) = %x", kind, b)
		}
	}
}

func TestEncodeOfStrayKinds(t *testing.T) {
	for _, kind := range sample.StrayKinds() {
		if b := order.Encode(kind, 0x41, 0x1f600, -1); len(b) != 0 {
			t.Errorf("Encode(%d, ..) = %x", kind, b)
		}
		if b := order.Encode(kind); len(b) != 0 {
			t.Errorf("Encode(%d) = %x", kind, b)
		}
	}
}

func TestEncodeOfAll(t *testing.T) {
	for r := -0x100; r < 0x110100; r++ {
		c := rune(r)
		if !utf8.ValidRune(c) {
			c = utf8.RuneError
		}
		eight := utf8.AppendRune(nil, c)
		var low, high []byte
		for _, u := range utf16.AppendRune(nil, c) {
			low = binary.LittleEndian.AppendUint16(low, u)
			high = binary.BigEndian.AppendUint16(high, u)
		}
		for kind, want := range [][]byte{eight, eight, low, high} {
			if b := order.Encode(kind, r); !bytes.Equal(b, want) {
				t.Fatalf("Encode(%d, %x) = %x; want %x", kind, r, b, want)
			}
		}
	}
}

// P2.4

func TestUnitsThereAndBack(t *testing.T) {
	for _, kind := range []int{api.Low, api.High} {
		us := make([]int, 1<<16)
		for u := range us {
			us[u] = u
		}
		b := order.Octets(kind, us...)
		if len(b) != 2*len(us) {
			t.Fatalf("kind %d: %d octets", kind, len(b))
		}
		if back := order.Units(kind, b); !slices.Equal(back, us) {
			t.Errorf("kind %d: units differ behind there and back", kind)
		}
		if back := order.Octets(kind, order.Units(kind, b)...); !bytes.Equal(back, b) {
			t.Errorf("kind %d: octets differ behind there and back", kind)
		}
	}
}

func TestEncodeThereAndBack(t *testing.T) {
	var rs []int
	for r := 0; r <= 0x10ffff; r += 0x3f {
		if code.Is(r) {
			rs = append(rs, r)
		}
	}
	for _, kind := range []int{api.Auto, api.Eight} {
		var back []int
		for b := order.Encode(kind, rs...); len(b) > 0; {
			r, n := code.Get(b)
			back, b = append(back, r), b[n:]
		}
		if !slices.Equal(back, rs) {
			t.Errorf("kind %d: code points differ behind there and back", kind)
		}
	}
	for _, kind := range []int{api.Low, api.High} {
		var back []int
		for us := order.Units(kind, order.Encode(kind, rs...)); len(us) > 0; {
			r, n := code.Join(us...)
			back, us = append(back, r), us[n:]
		}
		if !slices.Equal(back, rs) {
			t.Errorf("kind %d: code points differ behind there and back", kind)
		}
	}
}

// TestMarkIsFirstCodePoint: feff, encoded, is the mark of what encodes it.
func TestMarkIsFirstCodePoint(t *testing.T) {
	for _, want := range []int{api.Eight, api.Low, api.High} {
		b := order.Encode(want, 0xfeff, 0x41)
		kind, n := order.Mark(b)
		if kind != want || string(b[n:]) != string(order.Encode(want, 0x41)) {
			t.Errorf("Mark(%x) = %d, %d", b, kind, n)
		}
	}
}

func TestOctetsHandedInStay(t *testing.T) {
	for _, s := range []string{"", "\xef", "\xef\xbb", "\xef\xbb\xbf", "\xff\xfeA\x00", "\xfe\xff\x00A", "abc"} {
		whole, b := sample.WithRoom([]byte(s))
		order.Mark(b)
		order.Sure(b)
		for kind := range 5 {
			order.Units(kind, b)
		}
		if string(whole) != s+"UUUU" {
			t.Errorf("%x became %x", s, whole)
		}
	}
}

func TestNumbersHandedInStay(t *testing.T) {
	us := []int{0x41, -1, 0x1f600, 0xd83d, 0x12345678}
	whole, part := sample.WithRoom(us)
	for kind := range 5 {
		order.Octets(kind, part...)
		order.Encode(kind, part...)
	}
	if !slices.Equal(whole[:len(us)], us) || !slices.Equal(whole[len(us):], []int{0x55, 0x55, 0x55, 0x55}) {
		t.Errorf("%x became %x", us, whole)
	}
}

// TestSpareRoomIsNotLooked: what lies behind b, in its spare room, is no part of it.
func TestSpareRoomIsNotLooked(t *testing.T) {
	for _, mark := range []string{"\xef\xbb\xbf", "\xff\xfe", "\xfe\xff"} {
		whole := []byte(mark)
		for n := range len(whole) {
			b := whole[:n]
			if kind, m := order.Mark(b); kind != api.Auto || m != 0 || order.Sure(b) {
				t.Errorf("%x of %x: Mark %d, %d, Sure %t", b, whole, kind, m, order.Sure(b))
			}
		}
	}
	if us := order.Units(api.Low, []byte{1, 2, 3, 4}[:3]); !slices.Equal(us, []int{0x201}) {
		t.Errorf("Units = %x", us)
	}
}

func TestAnswersAreNewMemory(t *testing.T) {
	b := []byte{0x12, 0x34, 0x56, 0x78}
	rs := []int{0x41, 0x20ac, 0x1f600}
	for kind := range 4 {
		us, octets, text := order.Units(kind, b), order.Octets(kind, rs...), order.Encode(kind, rs...)
		wantUnits, wantOctets, wantText := slices.Clone(us), slices.Clone(octets), slices.Clone(text)
		for range 2 {
			sample.Spoil(order.Units(kind, b))
			sample.Spoil(order.Octets(kind, rs...))
			sample.Spoil(order.Encode(kind, rs...))
		}
		if !slices.Equal(us, wantUnits) || !bytes.Equal(octets, wantOctets) || !bytes.Equal(text, wantText) {
			t.Errorf("kind %d: a later answer shares memory with an earlier one", kind)
		}
		sample.Spoil(us)
		sample.Spoil(octets)
		sample.Spoil(text)
		if !slices.Equal(order.Units(kind, b), wantUnits) || !bytes.Equal(order.Octets(kind, rs...), wantOctets) || !bytes.Equal(order.Encode(kind, rs...), wantText) {
			t.Errorf("kind %d: an answer that was changed changes later ones", kind)
		}
	}
	if !bytes.Equal(b, []byte{0x12, 0x34, 0x56, 0x78}) || !slices.Equal(rs, []int{0x41, 0x20ac, 0x1f600}) {
		t.Errorf("an answer shares memory with what was handed in: %x, %x", b, rs)
	}
}

func TestWhatIsHandedInIsNotKept(t *testing.T) {
	b := []byte{0x12, 0x34}
	rs := []int{0x41, 0x1f600}
	us, octets, text := order.Units(api.Low, b), order.Octets(api.Low, rs...), order.Encode(api.Low, rs...)
	sample.Spoil(b)
	sample.Spoil(rs)
	if !slices.Equal(us, []int{0x3412}) || string(octets) != "A\x00\x00\xf6" || string(text) != "A\x00\x3d\xd8\x00\xde" {
		t.Errorf("what was handed in is kept: %x, %x, %x", us, octets, text)
	}
}

// TestMarksStay: no call changes what later ones take for a mark.
func TestMarksStay(t *testing.T) {
	whole := []byte("\xef\xbb\xbf")
	order.Mark(whole)
	order.Sure(whole)
	sample.Spoil(whole)
	if kind, n := order.Mark([]byte("\xef\xbb\xbf")); kind != api.Eight || n != 3 {
		t.Errorf("Mark = %d, %d", kind, n)
	}
	if kind, n := order.Mark(whole); kind != api.Auto || n != 0 {
		t.Errorf("Mark(%x) = %d, %d", whole, kind, n)
	}
}
