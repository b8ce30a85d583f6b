package engine_test

import (
	"strings"
	"testing"
	"unicode/utf8"

	"reedbed/api"
	"reedbed/engine"
	"reedbed/sample"
)

// signs are all that stand for something else in a pattern.
const signs = `.^$|()[]{}*+?\`

// quoted is a text's pattern, by the document's words; its octets are all code
// points'.
func quoted(s string) string {
	var b strings.Builder
	for _, r := range s {
		switch {
		case r == '\n':
			b.WriteString(`\n`)
		case r == '\r':
			b.WriteString(`\r`)
		case r == '\t':
			b.WriteString(`\t`)
		case r == '-' || strings.ContainsRune(signs, r):
			b.WriteString(`\` + string(r))
		default:
			b.WriteRune(r)
		}
	}
	return b.String()
}

// quotes asks for a text's pattern, and that it matches that text as a whole.
func quotes(t *testing.T, s, want string) {
	t.Helper()
	q := engine.Quote(s)
	if q != want {
		t.Fatalf("%q: %q; want %q", s, q, want)
	}
	if len(q) > 200 {
		none(t, api.ErrBig, q)
		return
	}
	e := made(t, q)
	if start, whole := e.Prefix(); start != s || !whole {
		t.Errorf("%q: it matches %q, %t", s, start, whole)
	}
	tells(t, e, q, s, hits(0, len(s)))
}

// P13.3

func TestQuote(t *testing.T) {
	for s, want := range map[string]string{
		"": "", "a": "a", "abc": "abc", "a b": "a b", "a.b": `a\.b`, "-": `\-`, "a-b": `a\-b`, "[a-b]": `\[a\-b\]`, "\n": `\n`, "\r": `\r`, "\t": `\t`, "\r\n": `\r\n`, "a\nb\tc": `a\nb\tc`, `\n`: `\\n`, `\`: `\\`, `\\`: `\\\\`, `\d`: `\\d`, "n": "n", "r": "r", "t": "t", "nrt": "nrt", "a{2}": `a\{2\}`, "(a|b)*": `\(a\|b\)\*`, "^a$": `\^a\$`, "a+?": `a\+\?`, "[^]": `\[\^\]`,
		".": `\.`, "^": `\^`, "$": `\$`, "|": `\|`, "(": `\(`, ")": `\)`, "[": `\[`, "]": `\]`, "{": `\{`, "}": `\}`, "*": `\*`, "+": `\+`, "?": `\?`,
		"\x00": "\x00", "\v": "\v", "\f": "\f", "\b": "\b", "\x1b\x7f": "\x1b\x7f", "\"'/,:;<=>@_`~!#%&": "\"'/,:;<=>@_`~!#%&", "dwsDWS": "dwsDWS", "09az": "09az",
		"\u00e9": "\u00e9", "\u20ac": "\u20ac", "\U0001f600": "\U0001f600", "\ufffd": "\ufffd", "\u0080\u07ff\u0800\ud7ff\ue000\uffff\U00010000\U0010ffff": "\u0080\u07ff\u0800\ud7ff\ue000\uffff\U00010000\U0010ffff", "a\u00e9.\u20ac\n-\U0001f600\\": "a\u00e9\\.\u20ac\\n\\-\U0001f600\\\\", "a.b\n-\\\u00e9": "a\\.b\\n\\-\\\\\u00e9", "\u2013\u00ad\uff0e\u2028\u0085": "\u2013\u00ad\uff0e\u2028\u0085",
	} {
		quotes(t, s, want)
		quotes(t, s+s, want+want)
		quotes(t, "x"+s+"\u20ac.", "x"+want+"\u20ac"+`\.`)
	}
}

// TestQuoteEach: each code point, alone and between others.
func TestQuoteEach(t *testing.T) {
	for r := rune(0); r <= utf8.MaxRune; r++ {
		s := string(r)
		if !utf8.ValidRune(r) {
			continue
		}
		if q := engine.Quote(s); q != quoted(s) {
			t.Fatalf("%q: %q; want %q", s, q, quoted(s))
		}
		if r < 0x900 || r%61 == 0 || r >= 0xd000 && r <= 0xe100 || r >= 0xff00 && r <= 0x10100 {
			quotes(t, s, quoted(s))
			quotes(t, "a."+s+"-"+s, `a\.`+quoted(s)+`\-`+quoted(s))
		}
	}
	for _, s := range sample.Texts(signs, 3) {
		quotes(t, s, quoted(s))
	}
}

// TestQuoteInOneAnother: it matches that text as a whole, and no other.
func TestQuoteInOneAnother(t *testing.T) {
	for _, x := range []struct {
		letters string
		most    int
	}{
		{"a.\n\\", 4}, {"n\n\\-", 4}, {"ab|*", 4}, {"a()?", 4}, {"[]^-a", 3}, {"{}2,a", 3}, {"$^+.\t", 3}, {"\r\nrn\\", 3}, {"a\u00e9\u20ac\U0001f600.", 3}, {"\u00e9\u00e8\u00a9-", 3}, {"\ufffd.\ufffe", 3},
	} {
		var all []string
		sample.Each([]rune(x.letters), x.most, func(s []rune) { all = append(all, string(s)) })
		for _, s := range all {
			quotes(t, s, quoted(s))
			e := made(t, "^"+engine.Quote(s)+"$")
			for _, other := range all {
				if is := e.Is(other); is != (other == s) {
					t.Fatalf("%q: in %q: %t", s, other, is)
				}
			}
		}
	}
	// What is no code point's stands for Wrong, to a pattern that has it.
	rows(t, row{engine.Quote("\ufffd"), "\xff", hits(0, 1)}, row{engine.Quote("a.\ufffd"), "a.\xe2a.", hits(0, 3)})
}

// TestQuoteNoText: octets that are no code points', alone, within and at the end.
func TestQuoteNoText(t *testing.T) {
	few := append(strange(), "a.\xff", ".\xffa", "\xff.", "\n\xc3", "\xe2\x82-", "\u00e9\xa9", "\xef\xbf", "\xef\xbf\xbd\xbd", "\ufffd\xff", "\xff\ufffd", "\xed\xbf\xbf", "\xf5\x80\x80\x80", "\xf8\x88\x80\x80\x80", "\xc1\xbf", strings.Repeat(".", 300)+"\xff", "\xff"+strings.Repeat("a", 300))
	for _, octets := range []string{".\xc3\xa9\xff", "\xe2\x82\xac-", "\xf0\x9f\x98\x80", "\xed\x9f\xa0\xe0", "\xef\xbf\xbd\n", "\xf4\x8f\x90\xbf"} {
		few = append(few, texts(octets, 6)...)
	}
	for c := range 256 {
		s := string([]byte{byte(c)})
		few = append(few, s, "a"+s, s+"a", "."+s+".")
	}
	right, wrong := 0, 0
	for _, s := range few {
		want := ""
		if utf8.ValidString(s) {
			want = quoted(s)
			right++
		} else {
			wrong++
		}
		if q := engine.Quote(s); q != want {
			t.Fatalf("%q: %q; want %q", s, q, want)
		}
	}
	if right < 500 || wrong < 5000 {
		t.Errorf("%d texts, %d others", right, wrong)
	}
}

// TestQuoteLong: it may be longer than Compile takes.
func TestQuoteLong(t *testing.T) {
	for _, x := range []struct {
		s    string
		n    int
		want int // of the pattern
	}{{"a", 200, 200}, {"a", 201, 201}, {".", 100, 200}, {".", 101, 202}, {"\n", 100, 200}, {"\n", 101, 202}, {"-", 100, 200}, {"\u20ac", 66, 198}, {"\u20ac", 67, 201}, {"\U0001f600", 50, 200}, {"\U0001f600", 51, 204}, {"a.", 66, 198}, {"a.", 67, 201}} {
		s := strings.Repeat(x.s, x.n)
		quotes(t, s, quoted(s))
		q := engine.Quote(s)
		if _, err := engine.Compile(q); len(q) != x.want || (err == api.OK) != (x.want <= 200) {
			t.Errorf("%d of %q: %d octets, %d", x.n, x.s, len(q), err)
		}
	}
	long := strings.Repeat("a.\u20ac\n", 1<<18)
	if q := engine.Quote(long); q != strings.Repeat("a\\.\u20ac\\n", 1<<18) {
		t.Errorf("%d octets", len(q))
	}
	if q := engine.Quote(long + "\xff"); q != "" {
		t.Errorf("%d octets", len(q))
	}
}
