package mode_test

import (
	"math"
	"slices"
	"strings"
	"testing"

	"reedbed/api"
	"reedbed/mode"
	"reedbed/sample"
)

// P18.3

func TestContextOfTheExample(t *testing.T) {
	wants(t, api.TellContext, 1, 1, row(".h..h"), "0-a 1:b 2-c 3-d 4:e")
}

func TestContext(t *testing.T) {
	for _, c := range []struct {
		before, after int
		letters, want string
	}{
		{0, 0, "", ""}, {16, 16, "", ""},
		{0, 0, ".", ""}, {16, 16, "....", ""}, {2, 2, "x.x", ""},
		{0, 0, "h", "0:a"}, {16, 16, "h", "0:a"},
		// In the first record, and in the last one.
		{0, 0, "h....", "0:a"}, {0, 1, "h....", "0:a 1-b"}, {0, 2, "h....", "0:a 1-b 2-c"}, {0, 16, "h....", "0:a 1-b 2-c 3-d 4-e"}, {16, 0, "h....", "0:a"},
		{0, 0, "....h", "4:e"}, {1, 0, "....h", "3-d 4:e"}, {2, 0, "....h", "2-c 3-d 4:e"}, {16, 0, "....h", "0-a 1-b 2-c 3-d 4:e"}, {0, 16, "....h", "4:e"},
		// Side by side.
		{0, 0, ".hh.", "1:b 2:c"}, {1, 1, ".hh.", "0-a 1:b 2:c 3-d"}, {2, 2, "..mh..", "0-a 1-b 2:c 3:d 4-e 5-f"}, {1, 0, "..hhh..", "1-b 2:c 3:d 4:e"},
		// What is told of them leaves records between, touches, overlaps.
		{0, 0, "h.h", "0:a -- 2:c"}, {0, 0, "h..h", "0:a -- 3:d"},
		{1, 1, "h....h", "0:a 1-b -- 4-e 5:f"}, {1, 1, "h...h", "0:a 1-b -- 3-d 4:e"}, {1, 1, "h..h", "0:a 1-b 2-c 3:d"}, {1, 1, "h.h", "0:a 1-b 2:c"},
		{1, 0, "h..h", "0:a -- 2-c 3:d"}, {1, 0, "h.h", "0:a 1-b 2:c"}, {0, 1, "h..h", "0:a 1-b -- 3:d"}, {0, 1, "h.h", "0:a 1-b 2:c"},
		{2, 2, "h.....h", "0:a 1-b 2-c -- 4-e 5-f 6:g"}, {2, 2, "h....h", "0:a 1-b 2-c 3-d 4-e 5:f"}, {2, 2, "h...h", "0:a 1-b 2-c 3-d 4:e"}, {2, 2, "h..h", "0:a 1-b 2-c 3:d"},
		{2, 1, "h....h", "0:a 1-b -- 3-d 4-e 5:f"}, {1, 2, "h....h", "0:a 1-b 2-c -- 4-e 5:f"},
		// One behind another counts anew.
		{0, 2, "h.h....", "0:a 1-b 2:c 3-d 4-e"}, {0, 3, "hh.h.....", "0:a 1:b 2-c 3:d 4-e 5-f 6-g"},
		{2, 0, "...h...h", "1-b 2-c 3:d -- 5-f 6-g 7:h"},
		{16, 16, ".h" + strings.Repeat(".", 4), "0-a 1:b 2-c 3-d 4-e 5-f"},
	} {
		wants(t, api.TellContext, c.before, c.after, row(c.letters), c.want)
	}
}

func TestContextOfTheGreatestReach(t *testing.T) {
	const from, to = 40, 90 // the records that have hits
	for between := 30; between <= 36; between++ {
		second := from + between + 1
		letters := []byte(strings.Repeat(".", to+50))
		letters[from], letters[second] = 'h', 'h'
		x, m := made(t, api.TellContext, 16, 16)
		hand(t, x, m, row(string(letters))...)
		// 16 ahead of the first one and 16 behind the last one, those between as
		// far as they are within reach, and a line where there is a gap.
		want := 16 + 1 + min(between, 32) + 1 + 16
		if between > 32 {
			want++
		}
		if len(m.said) != want || slices.Contains(m.said, "--") != (between > 32) {
			t.Errorf("%d between: %q", between, m.said)
		}
	}
}

func TestContextOfAnyNumbers(t *testing.T) {
	const low, high = "-9223372036854775808", "9223372036854775807"
	for _, c := range []struct {
		before, after int
		letters       string
		numbers       []int
		want          string
	}{
		// Gaps: right ahead is who was handed right ahead.
		{0, 0, "hh", []int{4, 6}, "4:a -- 6:b"},
		{1, 1, ".h.", []int{4, 6, 9}, "4-a -- 6:b -- 9-c"},
		{2, 2, "..h..", []int{10, 20, 30, 31, 41}, "10-a -- 20-b -- 30:c 31-d -- 41-e"},
		// A gap in what isn't told is none, if the number goes on.
		{0, 0, "h.h", []int{4, 9, 5}, "4:a 5:c"},
		{1, 0, "h..h", []int{4, 9, 5, 6}, "4:a 5-c 6:d"},
		{0, 0, "h.h", []int{4, 5, 6}, "4:a -- 6:c"},
		// They fall.
		{0, 0, "hhh", []int{3, 2, 1}, "3:a -- 2:b -- 1:c"},
		{1, 1, ".h.", []int{3, 2, 1}, "3-a -- 2:b -- 1-c"},
		{0, 1, "h.h", []int{5, 6, 2}, "5:a 6-b -- 2:c"},
		// They come twice.
		{0, 0, "hh", []int{3, 3}, "3:a -- 3:b"},
		{1, 1, ".h.", []int{3, 3, 3}, "3-a -- 3:b -- 3-c"},
		{1, 0, "...h", []int{0, 0, 0, 1}, "0-c 1:d"},
		{0, 0, "h", []int{0}, "0:a"},
		// Below 0, and over 0.
		{1, 1, ".h.", []int{-2, -1, 0}, "-2-a -1:b 0-c"},
		{0, 0, "hhh", []int{-3, -1, 0}, "-3:a -- -1:b 0:c"},
		{0, 0, "hh", []int{-1, 1}, "-1:a -- 1:b"},
		{0, 0, "hh", []int{-7, 7}, "-7:a -- 7:b"},
		// The first one is behind none, whatever it is.
		{0, 0, "h", []int{9}, "9:a"}, {0, 0, "h", []int{-1}, "-1:a"}, {0, 0, ".h", []int{8, 9}, "9:b"}, {1, 0, ".h", []int{1, 0}, "1-a -- 0:b"},
		{0, 0, "h", []int{math.MinInt}, low + ":a"}, {0, 0, "h", []int{math.MaxInt}, high + ":a"},
		// Behind the greatest comes the least.
		{0, 0, "hh", []int{math.MaxInt, math.MinInt}, high + ":a " + low + ":b"},
		{1, 1, ".h.", []int{math.MaxInt, math.MinInt, math.MinInt + 1}, high + "-a " + low + ":b -9223372036854775807-c"},
		{0, 0, "hh", []int{math.MaxInt, math.MinInt + 1}, high + ":a -- -9223372036854775807:b"},
		{0, 0, "hh", []int{math.MinInt, math.MaxInt}, low + ":a -- " + high + ":b"},
		{0, 0, "hh", []int{math.MaxInt, 0}, high + ":a -- 0:b"},
		{0, 0, "hh", []int{math.MaxInt, math.MaxInt}, high + ":a -- " + high + ":b"},
		{0, 0, "hh", []int{0, 1 << 32}, "0:a -- 4294967296:b"}, {0, 0, "hh", []int{0, 1<<32 + 1}, "0:a -- 4294967297:b"},
	} {
		wants(t, api.TellContext, c.before, c.after, numbered(row(c.letters), c.numbers...), c.want)
	}
}

func TestContextOfLinesThatLookLikeOthers(t *testing.T) {
	h := sample.Hits(0, 0)
	all := []handed{one(0, "--"), one(1, "1:x", h...), one(2, "")}
	wants(t, api.TellContext, 1, 1, all, "0--- 1:1:x 2-")
	wants(t, api.TellContext, 0, 0, []handed{one(0, "", h...), one(2, "", h...)}, "0: -- 2:")
}

// P18.1 to P18.3

// step is a record: its letter, and how far its number lies from the last one's.
type step struct {
	letter byte
	by     int
}

// walk are the records of steps, from a number on, with texts of which no two
// beside each other have the same length.
func walk(from int, steps ...step) []handed {
	var all []handed
	for i, s := range steps {
		from += s.by
		text := strings.Repeat(string(rune('a'+i%26)), 1<<(i%7)-i%2)
		all = append(all, handed{api.Record{N: from, At: i, Text: text}, hitsOf(s.letter, text)})
	}
	return all
}

func TestAllShortRows(t *testing.T) {
	letters := []step{{'.', 1}, {'h', 1}}
	for _, k := range kinds() {
		if k.before == 15 || k.after == 15 {
			continue
		}
		sample.Each(letters, 9, func(steps []step) {
			// What it tells behind the beginnings of the row was seen at these.
			x, m := made(t, k.tell, k.before, k.after)
			hand(t, x, m, walk(-1, steps...)...)
			told(t, x, m)
			end(t, x, m)
			told(t, x, m)
		})
	}
}

func TestAllShortRowsOfAnyNumbersAndHits(t *testing.T) {
	steps := []step{{'.', 1}, {'h', 1}, {'m', 0}, {'x', 1}, {'.', 2}, {'h', -1}, {'h', 2}}
	for _, k := range []kind{{api.TellAll, 0, 0}, {api.TellFirst, 0, 0}, {api.TellCount, 0, 0}, {api.TellContext, 0, 0}, {api.TellContext, 1, 0}, {api.TellContext, 0, 1}, {api.TellContext, 2, 1}} {
		for _, from := range []int{0, math.MaxInt - 2} {
			sample.Each(steps, 4, func(steps []step) {
				x, m := made(t, k.tell, k.before, k.after)
				hand(t, x, m, walk(from, steps...)...)
				told(t, x, m)
				end(t, x, m)
				told(t, x, m)
			})
		}
	}
}

// longWalk is a row without a plain rule, in which one of so many records has
// hits, and one of so many numbers doesn't go on.
func longWalk(start, many, rare, odd int) []handed {
	next := sample.Row(start)
	var steps []step
	for range many {
		s := step{"..x"[next(3)], 1}
		if next(rare) == 0 {
			s.letter = "hhm"[next(3)]
		}
		if next(odd) == 0 {
			s.by = next(5) - 2
		}
		steps = append(steps, s)
	}
	return walk(math.MaxInt-many/2, steps...)
}

func TestLongRows(t *testing.T) {
	for i, k := range kinds() {
		for j, rare := range []int{1, 2, 5, 20, 60} {
			x, m := made(t, k.tell, k.before, k.after)
			follow(t, x, m, longWalk(5*i+j, 220, rare, 9)...)
			end(t, x, m)
			told(t, x, m)
		}
	}
}

func TestVeryLongRows(t *testing.T) {
	for _, k := range []kind{{api.TellAll, 1, 1}, {api.TellFirst, 1, 1}, {api.TellCount, 1, 1}, {api.TellContext, 2, 3}, {api.TellContext, 16, 16}} {
		x, m := made(t, k.tell, k.before, k.after)
		var lines []string
		for _, r := range longWalk(7, 30000, 40, 100) {
			lines = append(lines, x.Add(r.r, r.hits...)...)
			m.all = append(m.all, handed{r.r, r.right()})
		}
		// It is read once: behind each record that would take too long.
		if m.said = m.lines(); !slices.Equal(lines, m.said) {
			t.Errorf("%v: %d lines; want %d", k, len(lines), len(m.said))
		}
		told(t, x, m)
		end(t, x, m)
	}
}

func TestTwoTellersBesideOneAnother(t *testing.T) {
	one, _ := made(t, api.TellContext, 1, 1)
	two, _ := made(t, api.TellContext, 1, 1)
	add := func(x *mode.Teller, n int, text, letter, want string) {
		t.Helper()
		r := api.Record{N: n, Text: text}
		if lines := strings.Join(x.Add(r, hitsOf(letter[0], text)...), " "); lines != want {
			t.Errorf("Add(%v) = %q; want %q", r, lines, want)
		}
	}
	add(one, 0, "a", ".", "")
	add(two, 7, "ABC", ".", "")
	add(one, 1, "b", "h", "0-a 1:b")
	add(two, 8, "D", "h", "7-ABC 8:D")
	add(two, 9, "E", ".", "9-E")
	add(two, 10, "FG", ".", "")
	add(one, 2, "c", ".", "2-c")
	if one.Held() != 0 || two.Held() != 2 {
		t.Errorf("Held %d and %d; want 0 and 2", one.Held(), two.Held())
	}
	if lines := two.End(); len(lines) != 0 {
		t.Errorf("End = %q", lines)
	}
	add(two, 11, "H", "h", "")
	add(one, 4, "d", "h", "-- 4:d")
}

func TestTellersStandAlone(t *testing.T) {
	next := sample.Row(29)
	var tellers []*mode.Teller
	var plains []*plain
	for _, k := range []kind{{api.TellAll, 0, 0}, {api.TellFirst, 0, 0}, {api.TellFirst, 2, 2}, {api.TellCount, 0, 0}, {api.TellCount, 1, 1}, {api.TellContext, 1, 1}, {api.TellContext, 1, 1}, {api.TellContext, 2, 0}, {api.TellContext, 0, 16}} {
		x, m := made(t, k.tell, k.before, k.after)
		tellers, plains = append(tellers, x), append(plains, m)
	}
	for i, r := range longWalk(31, 1500, 6, 9) {
		k := next(len(tellers))
		hand(t, tellers[k], plains[k], r)
		if i == 1000 {
			end(t, tellers[4], plains[4])
			end(t, tellers[6], plains[6])
		}
		for j := range tellers {
			told(t, tellers[j], plains[j])
		}
	}
	for j := range tellers {
		end(t, tellers[j], plains[j])
	}
}
