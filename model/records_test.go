package model_test

import (
	"fmt"
	"math"
	"strings"
	"testing"

	"reedbed/api"
	"reedbed/model"
	"reedbed/sample"
)

// show is a list of records: each one's number, place and text.
func show(all []api.Record) string {
	var list []string
	for _, r := range all {
		list = append(list, fmt.Sprintf("%d@%d:%s", r.N, r.At, r.Text))
	}
	return strings.Join(list, " ")
}

// shown asks for a right job's records, as show has them, and its error; the
// plain reading is held against the same.
func shown(t *testing.T, j api.Job, want string, err api.Errno) {
	t.Helper()
	if all, e := model.Records(j); show(all) != want || e != err {
		t.Errorf("%s: Records = %q, %d; want %q, %d", name(j), show(all), e, want, err)
	}
	if all, e := records(j); show(all) != want || e != err {
		t.Errorf("%s: plainly %q, %d; want %q, %d", name(j), show(all), e, want, err)
	}
}

// coded turns a job's encoding.
func coded(kind int) func(*api.Job) { return func(j *api.Job) { j.Code = kind } }

// P19.1

func TestRecords(t *testing.T) {
	for _, c := range []struct {
		data, want string
		err        api.Errno
	}{
		{"", "", api.OK},
		{"a", "0@0:a", api.OK}, {"a\n", "0@0:a", api.OK},
		{"ab\ncd", "0@0:ab 1@3:cd", api.OK}, {"ab\ncd\n", "0@0:ab 1@3:cd", api.OK},
		// Empty ones.
		{"\n", "0@0:", api.OK}, {"\n\n", "0@0: 1@1:", api.OK}, {"\na", "0@0: 1@1:a", api.OK}, {"a\n\nb", "0@0:a 1@2: 2@3:b", api.OK}, {"\n\r\n\n", "0@0: 1@1: 2@3:", api.OK},
		// A return ahead of a line feed, and elsewhere.
		{"a\r\nb\r\n", "0@0:a 1@3:b", api.OK}, {"a\r\nb", "0@0:a 1@3:b", api.OK}, {"a\nb\r\nc", "0@0:a 1@2:b 2@5:c", api.OK},
		{"a\rb\n", "0@0:a\rb", api.OK}, {"\ra\n", "0@0:\ra", api.OK}, {"a\r\r\n", "0@0:a\r", api.OK}, {"a\r", "0@0:a\r", api.OK}, {"\r", "0@0:\r", api.OK}, {"a\n\r", "0@0:a 1@2:\r", api.OK}, {"a\n\rb", "0@0:a 1@2:\rb", api.OK},
		// As long as may be, and longer.
		{"abcde", "0@0:abcde", api.OK}, {"abcde\n", "0@0:abcde", api.OK}, {"abcde\r\nf", "0@0:abcde 1@7:f", api.OK}, {"a\nabcde", "0@0:a 1@2:abcde", api.OK}, {"abcd\r", "0@0:abcd\r", api.OK},
		{"abcdef", "", api.ErrLong}, {"abcdef\n", "", api.ErrLong}, {"abcde\r", "", api.ErrLong}, {"abcde\rf\n", "", api.ErrLong}, {"abcde\r\r\n", "", api.ErrLong},
		{"a\n\nabcdef\nb\n", "0@0:a 1@2:", api.ErrLong}, {"a\nabcdef", "0@0:a", api.ErrLong}, {"a\nabcdefghijkl\nabcdefghijkl\nb", "0@0:a", api.ErrLong}, {"abcde\nabcde\r", "0@0:abcde", api.ErrLong},
		// It is the octets of the text that count.
		{"\u00e9\u00e9a", "0@0:\u00e9\u00e9a", api.OK}, {"\u00e9\u00e9\u00e9", "", api.ErrLong}, {"\xffab", "0@0:\ufffdab", api.OK}, {"\xffabc", "", api.ErrLong}, {"\xff\xff", "", api.ErrLong}, {"ab\n\xff\nc", "0@0:ab 1@3:\ufffd 2@7:c", api.OK},
	} {
		shown(t, job(c.data, ""), c.want, c.err)
	}
}

func TestRecordsOfTheGreatestLength(t *testing.T) {
	for _, n := range []int{1, 2, 5, 255, 256, 257, 4095, 4096} {
		full := strings.Repeat("a", n)
		for _, behind := range []string{"", "\n", "\r\n"} {
			shown(t, job(full+behind, "", most(n)), "0@0:"+full, api.OK)
			shown(t, job(full+"a"+behind, "", most(n)), "", api.ErrLong)
			shown(t, job(full+"\n"+full+behind, "", most(n)), fmt.Sprintf("0@0:%s 1@%d:%s", full, n+1, full), api.OK)
			shown(t, job(full+"\n"+full+"a"+behind, "", most(n)), "0@0:"+full, api.ErrLong)
		}
		shown(t, job(full+"\r", "", most(n)), "", api.ErrLong)
	}
}

func TestRecordsOfEachCode(t *testing.T) {
	const eight, low, high = "\xef\xbb\xbf", "\xff\xfe", "\xfe\xff"
	for _, c := range []struct {
		data string
		want [4]string // by Auto, Eight, Low, High
	}{
		{"", [4]string{}},
		{"ab\r\nc", [4]string{"0@0:ab 1@4:c", "0@0:ab 1@4:c", "0@0:\u6261\u0a0d\ufffd", "0@0:\u6162\u0d0a\ufffd"}},
		{"a\x00\r\x00\n\x00", [4]string{"0@0:a\x00\r\x00 1@5:\x00", "0@0:a\x00\r\x00 1@5:\x00", "0@0:a", "0@0:\u6100\u0d00\u0a00"}},
		{"\x00a\x00\r\x00\n", [4]string{"0@0:\x00a\x00\r\x00", "0@0:\x00a\x00\r\x00", "0@0:\u6100\u0d00\u0a00", "0@0:a"}},
		// A mark ahead is left out by Auto alone.
		{eight, [4]string{"", "0@0:\ufeff", "0@0:\ubbef\ufffd", "0@0:\uefbb\ufffd"}},
		{low, [4]string{"", "0@0:\ufffd\ufffd", "0@0:\ufeff", "0@0:\ufffe"}},
		{high, [4]string{"", "0@0:\ufffd\ufffd", "0@0:\ufffe", "0@0:\ufeff"}},
		{eight + "a\n\n", [4]string{"0@0:a 1@2:", "0@0:\ufeffa 1@5:", "0@0:\ubbef\u61bf\u0a0a", "0@0:\uefbb\ubf61\u0a0a"}},
		{low + "a\x00\n\x00b\x00", [4]string{"0@0:a 1@2:b", "0@0:\ufffd\ufffda\x00 1@9:\x00b\x00", "0@0:\ufeffa 1@5:b", "0@0:\ufffe\u6100\u0a00\u6200"}},
		{high + "\x00a\x00\n\x00b", [4]string{"0@0:a 1@2:b", "0@0:\ufffd\ufffd\x00a\x00 1@10:\x00b", "0@0:\ufffe\u6100\u0a00\u6200", "0@0:\ufeffa 1@5:b"}},
		// Half a mark, one elsewhere, two of them.
		{eight[:2] + "\n", [4]string{"0@0:\ufffd\ufffd", "0@0:\ufffd\ufffd", "0@0:\ubbef\ufffd", "0@0:\uefbb\ufffd"}},
		{"a" + eight, [4]string{"0@0:a\ufeff", "0@0:a\ufeff", "0@0:\uef61\ubfbb", "0@0:\u61ef\ubbbf"}},
		{low + low, [4]string{"0@0:\ufeff", "0@0:\ufffd\ufffd\ufffd\ufffd", "0@0:\ufeff\ufeff", "0@0:\ufffe\ufffe"}},
		// Octets that are no text.
		{"a\xff\n\xc3", [4]string{"0@0:a\ufffd 1@5:\ufffd", "0@0:a\ufffd 1@5:\ufffd", "0@0:\uff61\uc30a", "0@0:\u61ff\u0ac3"}},
		{"\x3d\xd8\x00\xde", [4]string{"0@0:=\ufffd\x00\ufffd", "0@0:=\ufffd\x00\ufffd", "0@0:\U0001f600", "0@0:\u3dd8\u00de"}},
		{"\xd8\x3d\xde\x00\x00", [4]string{"0@0:\ufffd=\ufffd\x00\x00", "0@0:\ufffd=\ufffd\x00\x00", "0@0:\u3dd8\u00de\ufffd", "0@0:\U0001f600\ufffd"}},
		{"\x00\xd8\n\x00", [4]string{"0@0:\x00\ufffd 1@5:\x00", "0@0:\x00\ufffd 1@5:\x00", "0@0:\ufffd", "0@0:\u00d8\u0a00"}},
	} {
		for kind, want := range c.want {
			shown(t, job(c.data, "", most(20), coded(kind)), want, api.OK)
		}
	}
}

func TestRecordsOfASourceThatFails(t *testing.T) {
	for _, c := range []struct {
		data string
		want []string // by where it fails, at 0, 1, ..; the last one: it doesn't
	}{
		{"", []string{"", ""}},
		{"a", []string{"", "", "0@0:a"}},
		{"\n", []string{"", "0@0:", "0@0:"}},
		{"ab\ncd", []string{"", "", "", "0@0:ab", "0@0:ab", "0@0:ab", "0@0:ab 1@3:cd"}},
		{"ab\r\n\n", []string{"", "", "", "", "0@0:ab", "0@0:ab 1@4:", "0@0:ab 1@4:"}},
		{"a\n\r\n\r", []string{"", "", "0@0:a", "0@0:a", "0@0:a 1@2:", "0@0:a 1@2:", "0@0:a 1@2: 2@4:\r"}},
		{"a\rb\n", []string{"", "", "", "", "0@0:a\rb", "0@0:a\rb"}},
		// Within a mark, a code point, a unit.
		{"\xef\xbb\xbfa\n", []string{"", "", "", "", "", "0@0:a", "0@0:a"}},
		{"\xff\xfea\x00\n\x00", []string{"", "", "", "", "", "", "0@0:a", "0@0:a"}},
		{"\xfe\xff\x00\n\xd8\x3d", []string{"", "", "", "", "0@0:", "0@0:", "0@0:", "0@0: 1@1:\ufffd"}},
		{"\n\u20ac\n", []string{"", "0@0:", "0@0:", "0@0:", "0@0:", "0@0: 1@1:\u20ac", "0@0: 1@1:\u20ac"}},
		{"\xe2\x82\n\xe2", []string{"", "", "", "0@0:\ufffd\ufffd", "0@0:\ufffd\ufffd", "0@0:\ufffd\ufffd 1@7:\ufffd"}},
		{"\xf0\x9f\x98\x80", []string{"", "", "", "", "", "0@0:\U0001f600"}},
	} {
		for at := range len(c.data) + 1 {
			shown(t, job(c.data, "", most(6), failing(at)), c.want[at], api.ErrSource)
		}
		for _, at := range []int{math.MinInt, math.MinInt + 1, -1 << 32, -2, -1, len(c.data) + 1, len(c.data) + 2, 1 << 32, math.MaxInt} {
			shown(t, job(c.data, "", most(6), failing(at)), c.want[len(c.data)+1], api.OK)
		}
	}
}

// TestRecordsOfASourceThatFailsWithinAUnit: or between two of one code point.
func TestRecordsOfASourceThatFailsWithinAUnit(t *testing.T) {
	const text = "\n\U0001f600\n"
	for kind, data := range map[int]string{
		api.Low:  "\n\x00\x3d\xd8\x00\xde\n\x00",
		api.High: "\x00\n\xd8\x3d\xde\x00\x00\n",
	} {
		for at := range len(data) + 1 {
			want := ""
			if at >= 2 {
				want = "0@0:"
			}
			if at == len(data) {
				want += " 1@1:\U0001f600"
			}
			shown(t, job(data, "", coded(kind), failing(at)), want, api.ErrSource)
		}
		shown(t, job(data, "", coded(kind)), "0@0: 1@1:\U0001f600", api.OK)
		// What the other code reads there has no line's end.
		shown(t, job(data, "", coded(api.Low+api.High-kind), most(20), failing(len(data))), "", api.ErrSource)
	}
}

func TestRecordsThatAreTooLongAheadOfAFailure(t *testing.T) {
	for _, c := range []struct {
		data string
		fail int
		want string
		err  api.Errno
	}{
		{"abcdefgh\n", 5, "", api.ErrSource}, {"abcdefgh\n", 6, "", api.ErrLong}, {"abcdefgh\n", 8, "", api.ErrLong}, {"abcdefgh\n", 9, "", api.ErrLong},
		{"ab\nabcdef\na", 8, "0@0:ab", api.ErrSource}, {"ab\nabcdef\na", 9, "0@0:ab", api.ErrLong}, {"ab\nabcdef\na", 11, "0@0:ab", api.ErrLong},
		{"abcdef", 5, "", api.ErrSource}, {"abcdef", 6, "", api.ErrLong}, {"abcdef", 7, "", api.ErrLong},
		// A return may belong to a line feed that comes.
		{"abcde\r\nf", 5, "", api.ErrSource}, {"abcde\r\nf", 6, "", api.ErrSource}, {"abcde\r\nf", 7, "0@0:abcde", api.ErrSource},
		{"abcde\rf", 6, "", api.ErrSource}, {"abcde\rf", 7, "", api.ErrLong}, {"abcde\r\r", 7, "", api.ErrLong}, {"abcde\r", 6, "", api.ErrSource}, {"abcde\r", 7, "", api.ErrLong}, {"abcdef\r", 7, "", api.ErrLong},
		// Octets that aren't settled make none longer.
		{"abcde\xe2\x82\xac", 6, "", api.ErrSource}, {"abcde\xe2\x82\xac", 7, "", api.ErrSource}, {"abcde\xe2\x82\xac", 8, "", api.ErrLong}, {"abcde\xe2\x82\n", 7, "", api.ErrSource}, {"abcde\xe2\x82\n", 8, "", api.ErrLong}, {"abcde\xe2\x82", -1, "", api.ErrLong}, {"abcd\xc3", 5, "", api.ErrSource}, {"abcd\xc3", -1, "", api.ErrLong},
		// What comes behind the failure isn't told.
		{"a\nb\nabcdef", 4, "0@0:a 1@2:b", api.ErrSource}, {"a\nb\nabcdef", 0, "", api.ErrSource}, {"a\nb\nabcdef", 9, "0@0:a 1@2:b", api.ErrSource}, {"a\nb\nabcdef", 10, "0@0:a 1@2:b", api.ErrLong},
	} {
		shown(t, job(c.data, "", failing(c.fail)), c.want, c.err)
	}
}

// TestRecordsOfAllShortTexts: as they stand, and failing at each place.
func TestRecordsOfAllShortTexts(t *testing.T) {
	sample.Each([]byte("ab\n\r"), 5, func(data []byte) {
		for at := -1; at <= len(data)+1; at++ {
			for _, n := range []int{1, 2, 4} {
				j := job(string(data), "", most(n), failing(at))
				want, err := records(j)
				has(t, j, want, err)
			}
		}
	})
}

// TestRecordsOfAllShortOctets: of marks, of units, of code points.
func TestRecordsOfAllShortOctets(t *testing.T) {
	for _, c := range []struct {
		octets string
		most   int
	}{
		{"\x00\n\ra\xff\xfe\xd8\xdc\xe2\x82\xef\xbb\xbf\xf0\x9f", 2},
		{"\xff\xfe\x00\n\xd8", 4}, {"\xfe\xff\x00\n\xdc", 4}, {"\xef\xbb\xbf\n", 4}, {"\xf0\x9f\x98\x80", 4}, {"\xe2\x82\xac\n", 4}, {"\n\x00\xd8\xde", 4},
	} {
		sample.Each([]byte(c.octets), c.most, func(data []byte) {
			for kind := range 4 {
				for at := -1; at <= len(data); at++ {
					j := job(string(data), "", coded(kind), failing(at))
					want, err := records(j)
					has(t, j, want, err)
				}
			}
		})
	}
}

func TestRecordsOfMuchData(t *testing.T) {
	text := strings.Repeat("ab\n\u20ac\r\n", 65536/8)
	for _, at := range []int{-1, 0, 1, 4096, 65535, 65536, 65537} {
		right(t, job(text, "b", failing(at)))
		right(t, job(text[:65535], "b", failing(at)))
	}
	full := strings.Repeat("a", 4096) + "\n"
	right(t, job(strings.Repeat(full, 15), "a{50}", most(4096)))
	right(t, job(strings.Repeat(full, 15), "a{50}", most(4095)))
	right(t, job(strings.Repeat("\n", 65536), "", most(1)))
	right(t, job(strings.Repeat("\xff", 65536), ".", most(4096)))
	right(t, job(strings.Repeat("\xff\n", 32768), ".", most(3)))
}
