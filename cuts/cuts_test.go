package cuts_test

import (
	"bytes"
	"fmt"
	"math"
	"slices"
	"testing"

	"reedbed/api"
	"reedbed/cuts"
	"reedbed/sample"
)

// lengths of pieces.
func lengths(pieces [][]byte) []int {
	var ns []int
	for _, p := range pieces {
		ns = append(ns, len(p))
	}
	return ns
}

// plain tells the lengths of the pieces of n octets, octet by octet.
func plain(n int, sizes []int) []int {
	var ns []int
	room := 0
	for range n {
		if room == 0 {
			room = allowed(len(ns), n, sizes)
			ns = append(ns, 0)
		}
		ns[len(ns)-1]++
		room--
	}
	return ns
}

// allowed is how long a piece may be by the document's words.
func allowed(piece, n int, sizes []int) int {
	if len(sizes) == 0 {
		return n
	}
	s := sizes[piece%len(sizes)]
	if s < 1 {
		return 1
	}
	if s > 4096 {
		return 4096
	}
	return s
}

// sameCut holds Cut against the plain reading, and joins what it cut.
func sameCut(t *testing.T, b []byte, sizes []int) {
	t.Helper()
	pieces := cuts.Cut(b, sizes...)
	if ns, want := lengths(pieces), plain(len(b), sizes); !slices.Equal(ns, want) {
		t.Fatalf("Cut of %d octets by %d has lengths %d; want %d", len(b), sizes, ns, want)
	}
	at := 0
	for i, p := range pieces {
		if !bytes.Equal(p, b[at:at+len(p)]) {
			t.Fatalf("Cut of %d octets by %d: piece %d is %x; want %x", len(b), sizes, i, p, b[at:at+len(p)])
		}
		at += len(p)
	}
	if joined := cuts.Join(pieces...); !bytes.Equal(joined, b) {
		t.Fatalf("%d octets cut by %d and joined are %x; want %x", len(b), sizes, joined, b)
	}
}

// P4.1

func TestCutOfTheExamples(t *testing.T) {
	for _, c := range []struct {
		b     string
		sizes []int
		want  []string
	}{
		{"abcdef", []int{1, 2}, []string{"a", "bc", "d", "ef"}},
		{"abcdefg", []int{1, 2}, []string{"a", "bc", "d", "ef", "g"}},
		{"abcdef", []int{3}, []string{"abc", "def"}},
		{"abcdefg", []int{3}, []string{"abc", "def", "g"}},
		{"abcde", []int{3}, []string{"abc", "de"}},
		{"abc", []int{2, 9, 1}, []string{"ab", "c"}},
		{"abc", []int{9}, []string{"abc"}},
		{"abc", []int{0}, []string{"a", "b", "c"}},
		{"abcdef", []int{3, 0, -5}, []string{"abc", "d", "e", "f"}},
		{"a", []int{1}, []string{"a"}},
		{"abc", nil, []string{"abc"}},
		{"abc", []int{}, []string{"abc"}},
	} {
		pieces := cuts.Cut([]byte(c.b), c.sizes...)
		same := slices.EqualFunc(pieces, c.want, func(p []byte, s string) bool { return string(p) == s })
		if !same {
			t.Errorf("Cut(%q, %d) = %q; want %q", c.b, c.sizes, pieces, c.want)
		}
	}
}

func TestCutOfNoOctets(t *testing.T) {
	for _, b := range [][]byte{nil, {}, []byte("abc")[:0]} {
		for _, sizes := range [][]int{nil, {}, {1}, {0, -1}, {4096, 9}} {
			if pieces := cuts.Cut(b, sizes...); len(pieces) != 0 {
				t.Errorf("Cut of no octets by %d = %q; want none", sizes, pieces)
			}
		}
	}
}

func TestCutWithoutSizes(t *testing.T) {
	for _, n := range []int{1, 2, 4095, 4096, 4097, 65536, 1 << 20} {
		b := sample.Octets(n)
		pieces := cuts.Cut(b)
		if len(pieces) != 1 || !bytes.Equal(pieces[0], b) {
			t.Errorf("Cut of %d octets without sizes has lengths %d; want one piece of all", n, lengths(pieces))
		}
	}
}

func TestCutAtTheEndsOfSizes(t *testing.T) {
	lists := [][]int{nil}
	for _, s := range sample.Sizes() {
		lists = append(lists, []int{s})
		for _, r := range sample.Sizes() {
			lists = append(lists, []int{s, r})
		}
	}
	lists = append(lists, []int{4096, 1, 4097, 0, 4095}, []int{1, 2, 3, 4, 5, 6, 7, 8, 9})
	for _, n := range []int{0, 1, 2, 3, 8, 9, 10, 4095, 4096, 4097, 8191, 8192, 8193, 10000} {
		b := sample.Octets(n)
		for _, sizes := range lists {
			sameCut(t, b, sizes)
		}
	}
}

func TestCutOfAllSmallSizes(t *testing.T) {
	whole := sample.Octets(14)
	for n := range len(whole) + 1 {
		sample.Each([]int{-1, 0, 1, 2, 3, 5}, 4, func(sizes []int) {
			sameCut(t, whole[:n], sizes)
		})
	}
}

func TestCutOfAllOctets(t *testing.T) {
	b := make([]byte, 256)
	for i := range b {
		b[i] = byte(i)
	}
	sameCut(t, b, []int{1})
	sameCut(t, b, []int{7, 1, 30})
	sameCut(t, b, nil)
}

// parts are pieces, with all their octets and their ends.
type parts struct {
	pieces [][]byte
	all    string
	ends   []int
}

// joints are such ones, pieces of no octets among them.
func joints() []parts {
	ab, c, none := []byte("ab"), []byte{0xff}, []byte{}
	long := sample.Octets(5000)
	return []parts{
		{nil, "", nil},
		{[][]byte{}, "", nil},
		{[][]byte{nil}, "", []int{0}},
		{[][]byte{none}, "", []int{0}},
		{[][]byte{nil, none, nil}, "", []int{0, 0, 0}},
		{[][]byte{ab}, "ab", []int{2}},
		{[][]byte{ab, c}, "ab\xff", []int{2, 3}},
		{[][]byte{c, ab}, "\xffab", []int{1, 3}},
		{[][]byte{ab, ab, ab}, "ababab", []int{2, 4, 6}},
		{[][]byte{ab, nil, c}, "ab\xff", []int{2, 2, 3}},
		{[][]byte{none, ab, c}, "ab\xff", []int{0, 2, 3}},
		{[][]byte{nil, nil, ab, none, c, none, nil}, "ab\xff", []int{0, 0, 2, 2, 3, 3, 3}},
		{[][]byte{long, ab, long}, string(long) + "ab" + string(long), []int{5000, 5002, 10002}},
	}
}

func TestJoin(t *testing.T) {
	for _, p := range joints() {
		if b := cuts.Join(p.pieces...); string(b) != p.all {
			t.Errorf("Join(%q) = %q; want %q", p.pieces, b, p.all)
		}
	}
}

func TestEnds(t *testing.T) {
	for _, p := range joints() {
		if ends := cuts.Ends(p.pieces...); !slices.Equal(ends, p.ends) {
			t.Errorf("Ends(%q) = %d; want %d", p.pieces, ends, p.ends)
		}
	}
}

func TestJoinAndEndsOfAllSmallLengths(t *testing.T) {
	b := sample.Octets(16)
	sample.Each([]int{0, 1, 2, 3}, 5, func(ns []int) {
		var pieces [][]byte
		var want []int
		at := 0
		for _, n := range ns {
			pieces = append(pieces, b[at:at+n])
			at += n
			want = append(want, at)
		}
		if joined := cuts.Join(pieces...); !bytes.Equal(joined, b[:at]) {
			t.Fatalf("Join of lengths %d = %x; want %x", ns, joined, b[:at])
		}
		if ends := cuts.Ends(pieces...); !slices.Equal(ends, want) {
			t.Fatalf("Ends of lengths %d = %d; want %d", ns, ends, want)
		}
	})
}

func TestEndsOfWhatIsCut(t *testing.T) {
	for _, c := range []struct {
		n     int
		sizes []int
		want  []int
	}{
		{0, []int{2}, nil},
		{5, nil, []int{5}},
		{5, []int{2}, []int{2, 4, 5}},
		{6, []int{1, 2}, []int{1, 3, 4, 6}},
		{10000, []int{math.MaxInt}, []int{4096, 8192, 10000}},
	} {
		if ends := cuts.Ends(cuts.Cut(sample.Octets(c.n), c.sizes...)...); !slices.Equal(ends, c.want) {
			t.Errorf("Ends of %d octets cut by %d = %d; want %d", c.n, c.sizes, ends, c.want)
		}
	}
}

// P4.2

func TestSpreadOfTheExamples(t *testing.T) {
	const half = 1 << 62
	for _, c := range []struct {
		n, most int
		want    []int
	}{
		{7, 3, []int{2, 2, 3}},
		{5, 3, []int{2, 3}},
		{6, 3, []int{3, 3}},
		{8, 5, []int{4, 4}},
		{8, 4, []int{4, 4}},
		{9, 4, []int{3, 3, 3}},
		{10, 4, []int{3, 3, 4}},
		{11, 4, []int{3, 4, 4}},
		{12, 4, []int{4, 4, 4}},
		{13, 4, []int{3, 3, 3, 4}},
		{2, 3, []int{2}},
		{3, 3, []int{3}},
		{4, 3, []int{2, 2}},
		{1, 1, []int{1}},
		{1, 100, []int{1}},
		{3, 1, []int{1, 1, 1}},
		{3, 0, []int{1, 1, 1}},
		{3, -1, []int{1, 1, 1}},
		{3, math.MinInt, []int{1, 1, 1}},
		{8192, api.MaxPiece, []int{4096, 4096}},
		{8193, api.MaxPiece, []int{2731, 2731, 2731}},
		{5, math.MaxInt, []int{5}},
		{1 << 32, 1 << 31, []int{1 << 31, 1 << 31}},
		{math.MaxInt, math.MaxInt, []int{math.MaxInt}},
		{math.MaxInt, math.MaxInt - 1, []int{half - 1, half}},
		{math.MaxInt - 1, half - 1, []int{half - 1, half - 1}},
		{math.MaxInt, half, []int{half - 1, half}},
		{math.MaxInt - 1, math.MaxInt, []int{math.MaxInt - 1}},
	} {
		if ns := cuts.Spread(c.n, c.most); !slices.Equal(ns, c.want) {
			t.Errorf("Spread(%d, %d) = %d; want %d", c.n, c.most, ns, c.want)
		}
	}
}

func TestSpreadBelowOne(t *testing.T) {
	for _, n := range []int{0, -1, -2, -7, math.MinInt32, math.MinInt + 1, math.MinInt} {
		for _, most := range []int{math.MinInt, -7, -1, 0, 1, 2, 7, math.MaxInt} {
			if ns := cuts.Spread(n, most); len(ns) != 0 {
				t.Errorf("Spread(%d, %d) = %d; want none", n, most, ns)
			}
		}
	}
}

// unfit tells what numbers that are spread do not keep, if anything.
func unfit(ns []int, n, most int) string {
	most = max(most, 1)
	sum := 0
	for _, m := range ns {
		sum += m
	}
	switch {
	case sum != n:
		return fmt.Sprintf("their sum is %d", sum)
	case !slices.IsSorted(ns):
		return "one is less than the one ahead"
	case ns[len(ns)-1] > most:
		return "one is above most"
	case ns[len(ns)-1]-ns[0] > 1:
		return "one is more than 1 greater than another"
	case (len(ns)-1)*most >= n:
		return "fewer would do"
	}
	return ""
}

func TestSpreadKeepsItsWords(t *testing.T) {
	for n := 1; n <= 150; n++ {
		for most := -2; most <= 155; most++ {
			ns := cuts.Spread(n, most)
			if what := unfit(ns, n, most); what != "" {
				t.Fatalf("Spread(%d, %d) = %d: %s", n, most, ns, what)
			}
		}
	}
}

func TestSpreadAboutMultiples(t *testing.T) {
	for _, most := range []int{2, 3, 10, 4095, 4096, 1 << 20, 1<<40 + 7} {
		for _, times := range []int{1, 2, 3, 10, 1000} {
			for near := -1; near <= 1; near++ {
				n := times*most + near
				ns := cuts.Spread(n, most)
				if what := unfit(ns, n, most); what != "" {
					t.Errorf("Spread(%d, %d): %s", n, most, what)
				}
				want := times
				if near > 0 {
					want++
				}
				if len(ns) != want {
					t.Errorf("Spread(%d, %d) has %d numbers; want %d", n, most, len(ns), want)
				}
			}
		}
	}
}

// P4.3

func TestCutSharesNothing(t *testing.T) {
	for _, sizes := range [][]int{nil, {1}, {2, 3}, {9}, {4096}} {
		whole, b := sample.WithRoom([]byte("abcdefgh"))
		first, second := cuts.Cut(b, sizes...), cuts.Cut(b, sizes...)
		want := lengths(first)
		for i, p := range first {
			sample.Spoil(p)
			for j, q := range first[i+1:] {
				if bytes.IndexByte(q, 0x77) >= 0 {
					t.Fatalf("Cut by %d: pieces %d and %d share memory", sizes, i, i+1+j)
				}
			}
		}
		if string(whole) != "abcdefghUUUU" {
			t.Errorf("Cut by %d shares what it was handed: now %q", sizes, whole)
		}
		if string(bytes.Join(second, nil)) != "abcdefgh" || !slices.Equal(lengths(second), want) {
			t.Errorf("Cut by %d shares what it answered: now %q", sizes, second)
		}
	}
}

func TestCutKeepsNothing(t *testing.T) {
	whole, b := sample.WithRoom([]byte("abcdefgh"))
	all, sizes := sample.WithRoom([]int{3, 0, 5000})
	pieces := cuts.Cut(b, sizes...)
	if string(whole) != "abcdefghUUUU" || !slices.Equal(all, []int{3, 0, 5000, 0x55, 0x55, 0x55, 0x55}) {
		t.Errorf("Cut changed what it was handed: now %q, %d", whole, all)
	}
	sample.Spoil(whole)
	sample.Spoil(all)
	if len(pieces) != 3 || string(pieces[0]) != "abc" || string(pieces[1]) != "d" || string(pieces[2]) != "efgh" {
		t.Errorf("Cut kept what it was handed: now %q", pieces)
	}
	if again := cuts.Cut([]byte("xyz"), 2); len(again) != 2 || string(again[0]) != "xy" || string(again[1]) != "z" {
		t.Errorf("Cut(xyz, 2) behind another = %q; want xy, z", again)
	}
}

// roomy is a list of pieces with spare room, in the list and in each piece.
func roomy() (wholes, list [][]byte) {
	for _, s := range []string{"ab", "", "cde"} {
		whole, part := sample.WithRoom([]byte(s))
		wholes, list = append(wholes, whole), append(list, part)
	}
	list = append(list, []byte("behind"))
	return wholes, list
}

func TestJoinAndEndsChangeNothing(t *testing.T) {
	wholes, list := roomy()
	joined, ends := cuts.Join(list[:3]...), cuts.Ends(list[:3]...)
	if string(list[3]) != "behind" || len(list[0]) != 2 || len(list[1]) != 0 || len(list[2]) != 3 {
		t.Errorf("the list that was handed in is now %q", list)
	}
	for i, want := range []string{"abUUUU", "UUUU", "cdeUUUU"} {
		if string(wholes[i]) != want {
			t.Errorf("piece %d that was handed in is now %q; want %q", i, wholes[i], want)
		}
	}
	for _, whole := range wholes {
		sample.Spoil(whole)
	}
	clear(list)
	if string(joined) != "abcde" || !slices.Equal(ends, []int{2, 2, 5}) {
		t.Errorf("what was handed in is kept: now %q, %d", joined, ends)
	}
}

func TestJoinIsNewMemory(t *testing.T) {
	for _, n := range []int{1, 2, 3} {
		wholes, list := roomy()
		first, second := cuts.Join(list[:n]...), cuts.Join(list[:n]...)
		want := string(first)
		sample.Spoil(first)
		if string(second) != want {
			t.Errorf("Join of %d pieces shares what it answered: now %q", n, second)
		}
		for i, was := range []string{"abUUUU", "UUUU", "cdeUUUU"} {
			if string(wholes[i]) != was {
				t.Errorf("Join of %d pieces shares piece %d: now %q", n, i, wholes[i])
			}
		}
	}
}

func TestNumbersAreNewMemory(t *testing.T) {
	_, list := roomy()
	ends, again := cuts.Ends(list[:3]...), cuts.Ends(list[:3]...)
	sample.Spoil(ends)
	if !slices.Equal(again, []int{2, 2, 5}) {
		t.Errorf("Ends shares what it answered: now %d", again)
	}
	spread, other := cuts.Spread(7, 3), cuts.Spread(7, 3)
	sample.Spoil(spread)
	if !slices.Equal(other, []int{2, 2, 3}) || !slices.Equal(cuts.Spread(7, 3), []int{2, 2, 3}) {
		t.Errorf("Spread shares what it answered: now %d", other)
	}
}

func TestCutBySpread(t *testing.T) {
	for n := 1; n <= 60; n++ {
		for most := 1; most <= 20; most++ {
			sizes := cuts.Spread(n, most)
			pieces := cuts.Cut(sample.Octets(n), sizes...)
			if !slices.Equal(lengths(pieces), sizes) {
				t.Fatalf("%d octets cut by %d have lengths %d", n, sizes, lengths(pieces))
			}
		}
	}
}
