package lit_test

import (
	"math"
	"slices"
	"strings"
	"testing"

	"reedbed/lit"
	"reedbed/sample"
)

// P12.2

// finds asks for a text's places in another, from all numbers about, and how many
// they are.
func finds(t *testing.T, text, s string) {
	t.Helper()
	var places []int
	for at := range len(text) + 1 {
		if strings.HasPrefix(text[at:], s) {
			places = append(places, at)
		}
	}
	for from := -2; from <= len(text)+2; from++ {
		want := -1
		if i := slices.IndexFunc(places, func(at int) bool { return at >= from }); i >= 0 {
			want = places[i]
		}
		if at := lit.Index(text, s, from); at != want {
			t.Fatalf("Index of %q in %q from %d: %d; want %d", s, text, from, at, want)
		}
	}
	if n := lit.Count(text, s); n != len(places) {
		t.Fatalf("Count of %q in %q: %d; want %d", s, text, n, len(places))
	}
}

func TestIndex(t *testing.T) {
	for _, x := range []struct {
		text, s  string
		from, at int
	}{
		{"abcabc", "bc", 0, 1}, {"abcabc", "bc", 1, 1}, {"abcabc", "bc", 2, 4}, {"abcabc", "bc", 4, 4}, {"abcabc", "bc", 5, -1}, {"abcabc", "bc", 6, -1}, {"abcabc", "bc", 7, -1}, {"abcabc", "abc", 0, 0}, {"abcabc", "abc", 1, 3}, {"abcabc", "abcabc", 0, 0}, {"abcabc", "abcabc", 1, -1}, {"abcabc", "x", 0, -1}, {"abcabc", "ac", 0, -1},
		// The least one of several.
		{"aaaa", "a", 0, 0}, {"aaaa", "a", 3, 3}, {"aaaa", "aa", 1, 1}, {"xaxaxa", "a", 2, 3}, {"ababab", "bab", 0, 1}, {"ababab", "bab", 2, 3},
		// From below 0: from 0 on.
		{"aab", "ab", -1, 1}, {"aab", "ab", -5, 1}, {"aab", "aab", -3, 0}, {"aab", "a", math.MinInt, 0}, {"aab", "x", math.MinInt, -1}, {"aab", "", -1, 0}, {"aab", "a", -1 << 32, 0},
		// From the length on, and above it.
		{"aab", "b", 2, 2}, {"aab", "b", 3, -1}, {"aab", "b", 4, -1}, {"aab", "b", math.MaxInt, -1}, {"aab", "b", math.MaxInt - 3, -1}, {"aab", "b", 1 << 32, -1}, {"aab", "b", 1<<32 + 2, -1},
		// The empty text, and in it.
		{"abc", "", 0, 0}, {"abc", "", 2, 2}, {"abc", "", 3, 3}, {"abc", "", 4, -1}, {"abc", "", math.MaxInt, -1}, {"", "", 0, 0}, {"", "", -1, 0}, {"", "", 1, -1}, {"", "", math.MinInt, 0}, {"", "", math.MaxInt, -1}, {"", "a", 0, -1}, {"", "a", -1, -1}, {"", "a", 1, -1},
		// One that is longer.
		{"abc", "abcd", 0, -1}, {"abc", "abcabc", -7, -1}, {"abc", "xabc", 0, -1}, {"bc", "abc", 0, -1}, {"aaa", "aaaa", 0, -1}, {"abc", "bcd", 1, -1}, {"abc", "abc", 1, -1}, {"abcab", "abc", 3, -1},
		// What begins, fails, and began already.
		{"aaab", "aab", 0, 1}, {"ababc", "abc", 0, 2}, {"abababc", "ababc", 0, 2}, {"aabaabaaa", "aabaaa", 0, 3}, {"abacabab", "abab", 0, 4}, {"aabaacaabaabaac", "aabaabaac", 0, 6}, {"abcabcabd", "abcabd", 0, 3}, {"aaaabaaaab", "aaab", 2, 6},
	} {
		if at := lit.Index(x.text, x.s, x.from); at != x.at {
			t.Errorf("%q in %q from %d: %d; want %d", x.s, x.text, x.from, at, x.at)
		}
	}
}

func TestCount(t *testing.T) {
	for _, x := range []struct {
		text, s string
		n       int
	}{
		{"abcabc", "bc", 2}, {"abcabc", "abcabc", 1}, {"abcabc", "ca", 1}, {"abcabc", "x", 0}, {"abc", "a", 1}, {"abc", "c", 1},
		// They overlap.
		{"aaaa", "a", 4}, {"aaaa", "aa", 3}, {"aaaa", "aaa", 2}, {"aaaa", "aaaa", 1}, {"abababa", "aba", 3}, {"abababa", "abab", 2}, {"aabaabaabaa", "aabaa", 3}, {"aabaabaabaa", "aabaabaa", 2}, {"aaabaaab", "aa", 4},
		{"", "", 1}, {"a", "", 2}, {"abc", "", 4}, {"", "a", 0}, {"abc", "abcd", 0}, {"aaa", "aaaa", 0}, {"bc", "abc", 0},
		{"\u00e9", "", 3}, {"\u00e9\u00e8", "\xc3", 2}, {"\u20ac\u20ad", "\xe2\x82", 2}, {"\xff\xff\xff", "\xff\xff", 2}, {"\x00\x00", "\x00", 2}, {"\x80\xc3", "\xc3\x80", 0},
	} {
		if n := lit.Count(x.text, x.s); n != x.n {
			t.Errorf("%q in %q: %d; want %d", x.s, x.text, n, x.n)
		}
	}
}

// TestAllShortTexts: each in each, whatever their octets.
func TestAllShortTexts(t *testing.T) {
	for _, x := range []struct {
		octets              string
		longest, longestLit int
	}{
		{"ab", 9, 5}, {"abc", 5, 4}, {"\xc3\xa9a\xff", 4, 3}, {"\x00\x80\xff", 5, 3}, {"\xe2\x82\xac", 5, 4},
	} {
		of := func(most int) []string {
			var all []string
			sample.Each([]byte(x.octets), most, func(s []byte) { all = append(all, string(s)) })
			return all
		}
		for _, text := range of(x.longest) {
			for _, s := range of(x.longestLit) {
				finds(t, text, s)
			}
		}
	}
}

// TestAllOctets: each alone, ahead, behind and between.
func TestAllOctets(t *testing.T) {
	var every []byte
	for c := range 256 {
		every = append(every, byte(c))
	}
	text := string(every) + string(every)
	for c := range 256 {
		s := string(every[c : c+1])
		if at, next, n := lit.Index(text, s, 0), lit.Index(text, s, c+1), lit.Count(text, s); at != c || next != c+256 || n != 2 {
			t.Errorf("%x: %d, %d, %d", c, at, next, n)
		}
		finds(t, "ab"+s+s+"c"+s, s)
		finds(t, "ab"+s+s+"c"+s, s+s)
		finds(t, s+"ab"+s+"ab", s+"ab")
		finds(t, "ab"+s+"abab", "ab"+s+"a")
	}
}

// TestTextsThatComeBack: ones whose parts stand in them again and again, and all
// parts of them.
func TestTextsThatComeBack(t *testing.T) {
	const long = 90
	row, both, swapped, parted := []string{"b", "a"}, "a", "a", "a"
	for len(row[len(row)-1]) < long {
		row = append(row, row[len(row)-1]+row[len(row)-2])
	}
	for len(both) < long {
		both += "b" + both
		swapped += strings.NewReplacer("a", "b", "b", "a").Replace(swapped)
		parted += string(rune('a'+len(parted)%7)) + parted
	}
	words := []string{
		row[len(row)-1][:long], both[:long], swapped, parted[:long], strings.Repeat("aab", 30), strings.Repeat("abaab", 12) + "b", strings.Repeat("a", 40) + "b" + strings.Repeat("a", 40),
	}
	for _, word := range words {
		for _, text := range []string{word, word[7:] + word, word[:31] + "b" + word} {
			for from := 0; from < len(word); from += 5 {
				for to := from; to <= len(word); to += 3 {
					s := word[from:to]
					for _, s := range []string{s, s + "b", "a" + s, s + s[:len(s)/2]} {
						finds(t, text, s)
					}
				}
			}
		}
	}
}

// TestLongTexts: what begins at each place and fails late must not take the
// product of both lengths.
func TestLongTexts(t *testing.T) {
	const long = 1 << 21
	row := strings.Repeat("a", long)
	half := row[:long/2]
	for _, x := range []struct {
		text, s string
		from    int
		at, n   int
	}{
		{row, half, 0, 0, long/2 + 1}, {row, half, 1000, 1000, long/2 + 1}, {row, row, 0, 0, 1}, {row, "", long, long, long + 1}, {row, half + "b", 0, -1, 0}, {row, "b" + half, 0, -1, 0}, {row, half[1:] + "b" + half[1:], 0, -1, 0}, {row + "b", half + "b", 5, long / 2, 1}, {"b" + row, "b" + half, 0, 0, 1}, {"b" + row, half, 0, 1, long/2 + 1}, {strings.Repeat("ab", long/2), strings.Repeat("ba", long/4), 2, 3, long / 4}, {row + "b" + row, row + "a", 0, -1, 0}, {row + "b" + row, row[1:], 3, long + 1, 4},
	} {
		if at := lit.Index(x.text, x.s, x.from); at != x.at {
			t.Errorf("Index of %d in %d octets: %d; want %d", len(x.s), len(x.text), at, x.at)
		}
		if n := lit.Count(x.text, x.s); n != x.n {
			t.Errorf("Count of %d in %d octets: %d; want %d", len(x.s), len(x.text), n, x.n)
		}
	}
	// From where just the end is left no more than that is looked at, of both texts.
	for from := long - 1000; from <= long; from++ {
		for range 100 {
			if at := lit.Index(row, half, from); at != -1 {
				t.Fatalf("from %d: %d", from, at)
			}
		}
	}
	for at := 0; at < long; at++ {
		if found := lit.Index(row, "aaa", at); found != at && at <= long-3 {
			t.Fatalf("from %d: %d", at, found)
		}
	}
}
