package mode_test

import (
	"fmt"
	"math"
	"slices"
	"strings"
	"testing"

	"reedbed/api"
	"reedbed/mode"
	"reedbed/sample"
)

// handed is a record with the hits that come with it.
type handed struct {
	r    api.Record
	hits []api.Hit
}

// right are those of its hits that lie in its text.
func (x handed) right() []api.Hit {
	return slices.DeleteFunc(slices.Clone(x.hits), func(h api.Hit) bool {
		return h.From < 0 || h.To < h.From || len(x.r.Text) < h.To
	})
}

// plain is a teller by the document's words: all that it was handed, without the
// hits that are left out, which is read anew for each answer.
type plain struct {
	tell, before, after int
	all                 []handed
	said                []string // the lines of it, ahead of the end
	over                bool
}

// has: has a record hits?
func (m *plain) has(i int) bool {
	return i >= 0 && i < len(m.all) && len(m.all[i].hits) > 0
}

// mark is how a record is told by TellContext; none: it isn't, as far as is
// known.
func (m *plain) mark(i int) string {
	if m.has(i) {
		return ":"
	}
	for n := 1; n <= 16; n++ {
		if n <= m.before && m.has(i+n) || n <= m.after && m.has(i-n) {
			return "-"
		}
	}
	return ""
}

// rightBehind: is it one number further on, as ints go round?
func rightBehind(n, last int) bool {
	if last == math.MaxInt {
		return n == math.MinInt
	}
	return n == last+1
}

func (m *plain) context() []string {
	var lines []string
	var told []int
	for i, x := range m.all {
		mark := m.mark(i)
		if mark == "" {
			continue
		}
		if len(told) > 0 && !rightBehind(x.r.N, told[len(told)-1]) {
			lines = append(lines, "--")
		}
		lines = append(lines, fmt.Sprintf("%d%s%s", x.r.N, mark, x.r.Text))
		told = append(told, x.r.N)
	}
	return lines
}

// lines are those of all that it was handed.
func (m *plain) lines() []string {
	var lines []string
	for _, x := range m.all {
		for _, h := range x.hits {
			switch m.tell {
			case api.TellAll:
				lines = append(lines, fmt.Sprintf("%d:%d-%d:%s", x.r.N, h.From, h.To, x.r.Text[h.From:h.To]))
			case api.TellFirst:
				return []string{fmt.Sprintf("%d:%s", x.r.N, x.r.Text)}
			}
		}
	}
	if m.tell == api.TellContext {
		return m.context()
	}
	return lines
}

// add is what Add has to answer.
func (m *plain) add(x handed) []string {
	if m.over {
		return nil
	}
	was := len(m.said)
	m.all = append(m.all, handed{x.r, x.right()})
	m.said = m.lines()
	return m.said[was:]
}

// end is what End has to answer.
func (m *plain) end() []string {
	was := m.over
	m.over = true
	if was || m.tell != api.TellCount {
		return nil
	}
	records, hits := 0, 0
	for _, x := range m.all {
		n := len(x.hits)
		records, hits = records+min(n, 1), hits+n
	}
	return []string{fmt.Sprintf("%d %d", records, hits)}
}

func (m *plain) enough() bool {
	return m.tell == api.TellFirst && len(m.said) > 0
}

func (m *plain) held() int {
	n := 0
	for i, x := range m.all {
		if m.tell == api.TellContext && !m.over && i >= len(m.all)-m.before && m.mark(i) == "" {
			n += len(x.r.Text)
		}
	}
	return n
}

// told holds all that a teller tells of itself against the plain reading, twice,
// as asking changes nothing.
func told(t *testing.T, x *mode.Teller, m *plain) {
	t.Helper()
	enough, held := m.enough(), m.held()
	for range 2 {
		if x.Enough() != enough || x.Held() != held {
			t.Fatalf("%s: Enough %t, Held %d; want %t, %d", name(m), x.Enough(), x.Held(), enough, held)
		}
	}
}

// name tells which teller it is, and the last of what it was handed.
func name(m *plain) string {
	last := m.all[max(0, len(m.all)-40):]
	return fmt.Sprintf("New(%d, %d, %d) behind %d records, the last ones %v", m.tell, m.before, m.after, len(m.all), last)
}

// hand hands records to a teller and to its plain reading, and holds what each
// answers against each other.
func hand(t *testing.T, x *mode.Teller, m *plain, all ...handed) {
	t.Helper()
	for _, r := range all {
		want := m.add(r)
		if lines := x.Add(r.r, r.hits...); !slices.Equal(lines, want) {
			t.Fatalf("%s: Add(%v) = %q; want %q", name(m), r, lines, want)
		}
	}
}

// follow hands records like hand, and holds behind each one what is told.
func follow(t *testing.T, x *mode.Teller, m *plain, all ...handed) {
	t.Helper()
	for _, r := range all {
		hand(t, x, m, r)
		told(t, x, m)
	}
}

// end ends a teller and its plain reading.
func end(t *testing.T, x *mode.Teller, m *plain) {
	t.Helper()
	want := m.end()
	if lines := x.End(); !slices.Equal(lines, want) {
		t.Fatalf("%s: End = %q; want %q", name(m), lines, want)
	}
}

// made is a teller that New has to answer, and its plain reading.
func made(t *testing.T, tell, before, after int) (*mode.Teller, *plain) {
	t.Helper()
	x, err := mode.New(tell, before, after)
	if x == nil || err != api.OK {
		t.Fatalf("New(%d, %d, %d) = %v, %v", tell, before, after, x, err)
	}
	return x, &plain{tell: tell, before: before, after: after}
}

// wants hands records to a new teller, and holds all its lines, with those of
// the end, against what is wanted: lines between blanks.
func wants(t *testing.T, tell, before, after int, all []handed, want string) {
	t.Helper()
	x, m := made(t, tell, before, after)
	var lines []string
	for _, r := range all {
		lines = append(lines, x.Add(r.r, r.hits...)...)
	}
	lines = append(lines, x.End()...)
	if got := strings.Join(lines, " "); got != want {
		t.Errorf("New(%d, %d, %d): %v tell %q; want %q", tell, before, after, all, got, want)
	}
	// The plain reading is held against the same.
	for _, r := range all {
		m.add(r)
	}
	if got := strings.Join(append(m.said, m.end()...), " "); got != want {
		t.Errorf("New(%d, %d, %d): %v tell plainly %q; want %q", tell, before, after, all, got, want)
	}
}

// kind is one of tellers.
type kind struct {
	tell, before, after int
}

// kinds are some of all of them.
func kinds() []kind {
	all := []kind{{api.TellAll, 0, 0}, {api.TellAll, 16, 16}, {api.TellFirst, 0, 0}, {api.TellFirst, 16, 16}, {api.TellCount, 0, 0}, {api.TellCount, 16, 16}}
	for _, before := range []int{0, 1, 2, 3, 15, 16} {
		for _, after := range []int{0, 1, 2, 3, 15, 16} {
			all = append(all, kind{api.TellContext, before, after})
		}
	}
	return all
}

// strayHits are some that don't lie in a text, whatever it is, but for its
// length.
func strayHits(length int) []api.Hit {
	return sample.Hits(
		-1, 0, -1, -1, -1, length, math.MinInt, 0, math.MinInt, math.MinInt, math.MinInt, math.MaxInt, -1<<32, 0,
		1, 0, length+1, length, length, -1, 0, -1, 0, math.MinInt, length, math.MinInt, math.MaxInt, math.MinInt, math.MaxInt, 0,
		0, length+1, length, length+1, length+1, length+1, 0, math.MaxInt, math.MaxInt, math.MaxInt, 0, 1<<32, 1<<32, 1<<32,
	)
}

// hitsOf are those of a text by a letter: h(it), m(any), x: none lies in it;
// else none at all.
func hitsOf(letter byte, text string) []api.Hit {
	strays, n := strayHits(len(text)), len(text)
	switch letter {
	case 'h':
		return sample.Hits(0, n)
	case 'm':
		return slices.Concat(strays[:3], sample.Hits(0, 0, 0, n, n, n), strays, sample.Hits(n/2, n, n/2, n/2))
	case 'x':
		return strays
	}
	return nil
}

// row are records with rising numbers and the texts a, b, .., each with the hits
// that a letter tells.
func row(letters string) []handed {
	var all []handed
	for i := range len(letters) {
		text := string(rune('a' + i%26))
		all = append(all, handed{api.Record{N: i, At: 2 * i, Text: text}, hitsOf(letters[i], text)})
	}
	return all
}

// numbered are records with those numbers in place of theirs.
func numbered(all []handed, numbers ...int) []handed {
	for i, n := range numbers {
		all[i].r.N = n
	}
	return all
}

// P18.1

func TestNewAtItsEnds(t *testing.T) {
	numbers := []int{math.MinInt, math.MinInt + 16, -1 << 32, -16, -2, -1, 0, 1, 2, 3, 4, 5, 15, 16, 17, 18, 255, 256, 1 << 32, 1<<32 + 16, math.MaxInt - 1, math.MaxInt}
	beside := func(n int) bool { return 0 <= n && n <= 16 }
	for _, tell := range numbers {
		for _, before := range numbers {
			for _, after := range numbers {
				if 0 <= tell && tell <= 3 && beside(before) && beside(after) {
					made(t, tell, before, after)
					continue
				}
				if x, err := mode.New(tell, before, after); x != nil || err != api.ErrArg {
					t.Errorf("New(%d, %d, %d) = %v, %v; want nil, ErrArg", tell, before, after, x, err)
				}
			}
		}
	}
}

func TestANewTeller(t *testing.T) {
	for tell := range 4 {
		for before := range 17 {
			for after := range 17 {
				x, m := made(t, tell, before, after)
				told(t, x, m)
				end(t, x, m)
				told(t, x, m)
			}
		}
	}
}

func TestBeforeAndAfterByTheOtherWays(t *testing.T) {
	all := row("..m...h..x.mm.")
	for tell := range 3 {
		for before := range 17 {
			for after := range 17 {
				x, m := made(t, tell, before, after)
				other, n := made(t, tell, 0, 0)
				for _, r := range all {
					follow(t, x, m, r)
					follow(t, other, n, r)
				}
				end(t, x, m)
				end(t, other, n)
			}
		}
	}
}

func TestLinesAsSoonAsTheyAreKnown(t *testing.T) {
	for _, c := range []struct {
		kind  kind
		lines []string // of each of the records
	}{
		{kind{api.TellAll, 2, 2}, []string{"", "", "2:0-1:c", "", "4:0-1:e", "", "", "", ""}},
		{kind{api.TellFirst, 2, 2}, []string{"", "", "2:c", "", "", "", "", "", ""}},
		{kind{api.TellCount, 2, 2}, []string{"", "", "", "", "", "", "", "", ""}},
		{kind{api.TellContext, 0, 0}, []string{"", "", "2:c", "", "-- 4:e", "", "", "", ""}},
		{kind{api.TellContext, 1, 0}, []string{"", "", "1-b 2:c", "", "3-d 4:e", "", "", "", ""}},
		{kind{api.TellContext, 2, 2}, []string{"", "", "0-a 1-b 2:c", "3-d", "4:e", "5-f", "6-g", "", ""}},
	} {
		x, _ := made(t, c.kind.tell, c.kind.before, c.kind.after)
		for i, r := range row("..h.h....") {
			if lines := strings.Join(x.Add(r.r, r.hits...), " "); lines != c.lines[i] {
				t.Errorf("%v: record %d tells %q; want %q", c.kind, i, lines, c.lines[i])
			}
		}
	}
}

func TestEndTwiceAndAddBehindEnd(t *testing.T) {
	for _, k := range kinds() {
		for _, letters := range []string{"", ".", "h", "x", "m", "..", "h.", ".h", "hh", "....h.", "h....", "hhm.."} {
			x, m := made(t, k.tell, k.before, k.after)
			follow(t, x, m, row(letters)...)
			end(t, x, m)
			told(t, x, m)
			for _, r := range row("h..m.x" + letters) {
				if lines := x.Add(r.r, r.hits...); len(lines) != 0 {
					t.Fatalf("%s: Add behind End = %q", name(m), lines)
				}
				told(t, x, m)
				if lines := x.End(); len(lines) != 0 {
					t.Fatalf("%s: End again = %q", name(m), lines)
				}
				told(t, x, m)
			}
		}
	}
}

func TestEnough(t *testing.T) {
	for _, k := range kinds() {
		x, m := made(t, k.tell, k.before, k.after)
		for i, r := range row("..x.hh.m....") {
			if want := k.tell == api.TellFirst && i > 4; x.Enough() != want {
				t.Fatalf("%v: Enough %t ahead of record %d", k, !want, i)
			}
			follow(t, x, m, r)
		}
		end(t, x, m)
		if want := k.tell == api.TellFirst; x.Enough() != want {
			t.Fatalf("%v: Enough %t behind End", k, !want)
		}
	}
}

func TestNotEnoughBehindEnd(t *testing.T) {
	for _, letters := range []string{"", ".", "..x.."} {
		x, m := made(t, api.TellFirst, 0, 0)
		follow(t, x, m, row(letters)...)
		end(t, x, m)
		// It tells nothing of what comes now: that it is enough, neither.
		hand(t, x, m, row("h")...)
		if x.Enough() {
			t.Errorf("%q: Enough, though nothing was told", letters)
		}
	}
}
