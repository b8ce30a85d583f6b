package model_test

import (
	"fmt"
	"math"
	"slices"
	"strings"
	"testing"

	"reedbed/api"
	"reedbed/model"
	"reedbed/sample"
)

// comesTo asks for what a right job comes to, its lines with blanks between; the
// plain reading is held against the same.
func comesTo(t *testing.T, j api.Job, want string, err api.Errno) {
	t.Helper()
	if lines, e := model.Run(j); strings.Join(lines, " ") != want || e != err {
		t.Errorf("%s: Run = %q, %d; want %q, %d", name(j), lines, e, want, err)
	}
	if lines, e := comes(j); strings.Join(lines, " ") != want || e != err {
		t.Errorf("%s: plainly %q, %d; want %q, %d", name(j), lines, e, want, err)
	}
}

// lettered is a text of so many records, a, b, and so on; those of these numbers
// are great letters.
func lettered(many int, great ...int) string {
	var text strings.Builder
	for n := range many {
		letter := rune('a' + n%26)
		if slices.Contains(great, n) {
			letter -= 'a' - 'A'
		}
		text.WriteRune(letter)
		text.WriteByte('\n')
	}
	return text.String()
}

// P19.1

func TestRunByEachWay(t *testing.T) {
	for _, c := range []struct {
		data, pattern string
		want          [4]string // by TellAll, TellFirst, TellCount, and TellContext with one ahead and one behind
	}{
		// No records, none that are hit.
		{"", "b", [4]string{"", "", "0 0", ""}},
		{"", "", [4]string{"", "", "0 0", ""}},
		{"a\nc\n\nd", "b", [4]string{"", "", "0 0", ""}},
		{"a\nb", "a\nb|b\n", [4]string{"", "", "0 0", ""}},
		// Some.
		{"b", "b", [4]string{"0:0-1:b", "0:b", "1 1", "0:b"}},
		{"a\nbab\r\nc\nd\nb", "b", [4]string{"1:0-1:b 1:2-3:b 4:0-1:b", "1:bab", "2 3", "0-a 1:bab 2-c 3-d 4:b"}},
		{"b\n\n\n\nb\n", "b", [4]string{"0:0-1:b 4:0-1:b", "0:b", "2 2", "0:b 1- -- 3- 4:b"}},
		{"abba\ncc\nbb", "b+", [4]string{"0:1-3:bb 2:0-2:bb", "0:abba", "2 2", "0:abba 1-cc 2:bb"}},
		{"c\na\r\nb\r", "\r|^a$", [4]string{"1:0-1:a 2:1-2:\r", "1:a", "2 2", "0-c 1:a 2:b\r"}},
		// Each.
		{"a\n\nb", "", [4]string{"0:0-0: 0:1-1: 1:0-0: 2:0-0: 2:1-1:", "0:a", "3 5", "0:a 1: 2:b"}},
		{"\n\n", "^$", [4]string{"0:0-0: 1:0-0:", "0:", "2 2", "0: 1:"}},
		{"\u00e9b\xff\nb", ".b?", [4]string{"0:0-3:\u00e9b 0:3-6:\ufffd 1:0-1:b", "0:\u00e9b\ufffd", "2 3", "0:\u00e9b\ufffd 1:b"}},
		{"\ufeffb\nb", "^b", [4]string{"0:0-1:b 1:0-1:b", "0:b", "2 2", "0:b 1:b"}},
	} {
		for tell, want := range c.want {
			comesTo(t, job(c.data, c.pattern, most(20), tells(tell, 1, 1)), want, api.OK)
		}
	}
}

func TestRunOfEachCode(t *testing.T) {
	for _, c := range []struct {
		kind int
		data string
	}{
		{api.Auto, "\u20acb\nb"}, {api.Eight, "\u20acb\nb"}, {api.Auto, "\xef\xbb\xbf\u20acb\nb"},
		{api.Auto, "\xff\xfe\xac\x20b\x00\n\x00b\x00"}, {api.Low, "\xac\x20b\x00\n\x00b\x00"},
		{api.Auto, "\xfe\xff\x20\xac\x00b\x00\n\x00b"}, {api.High, "\x20\xac\x00b\x00\n\x00b"},
	} {
		comesTo(t, job(c.data, ".", coded(c.kind)), "0:0-3:\u20ac 0:3-4:b 1:0-1:b", api.OK)
		comesTo(t, job(c.data, "^b", coded(c.kind)), "1:0-1:b", api.OK)
	}
}

func TestRunWithRecordsThatArentLookedAt(t *testing.T) {
	for _, c := range []struct {
		data string
		n    int
		want [4]string // by each way, the last one with one ahead and none behind
	}{
		{"b\nb\nb\nb\nb", 1, [4]string{"0:0-1:b 1:0-1:b 2:0-1:b 3:0-1:b 4:0-1:b", "0:b", "5 5", "0:b 1:b 2:b 3:b 4:b"}},
		{"b\nb\nb\nb\nb", 2, [4]string{"0:0-1:b 2:0-1:b 4:0-1:b", "0:b", "3 3", "0:b 1-b 2:b 3-b 4:b"}},
		{"b\nb\nb\nb\nb", 3, [4]string{"0:0-1:b 3:0-1:b", "0:b", "2 2", "0:b -- 2-b 3:b"}},
		{"b\nb\nb\nb\nb", 4, [4]string{"0:0-1:b 4:0-1:b", "0:b", "2 2", "0:b -- 3-b 4:b"}},
		{"b\nb\nb\nb\nb", 5, [4]string{"0:0-1:b", "0:b", "1 1", "0:b"}},
		{"b\nb\nb\nb\nb", math.MaxInt, [4]string{"0:0-1:b", "0:b", "1 1", "0:b"}},
		{"a\nb\nbb\nb\na", 2, [4]string{"2:0-1:b 2:1-2:b", "2:bb", "1 2", "1-b 2:bb"}},
		{"a\nb\nbb\nab\na", 3, [4]string{"3:1-2:b", "3:ab", "1 1", "2-bb 3:ab"}},
		{"a\nb\na\nb\na", 2, [4]string{"", "", "0 0", ""}},
		{"a\nb\nb\nb\nb", math.MaxInt, [4]string{"", "", "0 0", ""}},
	} {
		for tell, want := range c.want {
			comesTo(t, job(c.data, "b", every(c.n), tells(tell, 1, 0)), want, api.OK)
		}
	}
	// Below 2 each is.
	for _, n := range []int{math.MinInt, -3, -2, -1, 0, 1} {
		for tell, want := range [4]string{"1:0-1:b 2:0-1:b 3:0-1:b", "1:b", "3 3", "0-a 1:b 2:b 3:b"} {
			comesTo(t, job("a\nb\nb\nb\na", "b", every(n), tells(tell, 1, 0)), want, api.OK)
		}
	}
}

func TestRunWithRecordsBeside(t *testing.T) {
	for _, c := range []struct {
		before, after int
		great         []int // of 60 records, those that have hits
		want          string
	}{
		{0, 0, nil, ""}, {16, 16, nil, ""},
		{0, 0, []int{20}, "20:U"}, {1, 0, []int{20}, "19-t 20:U"}, {0, 1, []int{20}, "20:U 21-v"}, {1, 1, []int{20}, "19-t 20:U 21-v"},
		{0, 0, []int{20, 22}, "20:U -- 22:W"}, {1, 0, []int{20, 22}, "19-t 20:U 21-v 22:W"}, {0, 1, []int{20, 22}, "20:U 21-v 22:W 23-x"}, {1, 1, []int{20, 23}, "19-t 20:U 21-v 22-w 23:X 24-y"}, {1, 1, []int{20, 24}, "19-t 20:U 21-v -- 23-x 24:Y 25-z"},
		{16, 0, []int{20}, "4-e 5-f 6-g 7-h 8-i 9-j 10-k 11-l 12-m 13-n 14-o 15-p 16-q 17-r 18-s 19-t 20:U"},
		{0, 16, []int{20}, "20:U 21-v 22-w 23-x 24-y 25-z 26-a 27-b 28-c 29-d 30-e 31-f 32-g 33-h 34-i 35-j 36-k"},
		{16, 1, []int{2}, "0-a 1-b 2:C 3-d"}, {1, 16, []int{57}, "56-e 57:F 58-g 59-h"}, {1, 1, []int{0, 59}, "0:A 1-b -- 58-g 59:H"},
	} {
		j := job(lettered(60, c.great...), "[A-Z]", tells(api.TellContext, c.before, c.after))
		comesTo(t, j, c.want, api.OK)
		// By the other ways nothing is told beside.
		for _, tell := range []int{api.TellAll, api.TellFirst, api.TellCount} {
			lines, err := comes(with(j, tells(tell, 0, 0)))
			runs(t, with(j, tells(tell, c.before, c.after)), lines, err)
		}
	}
	for before := range 17 {
		for after := range 17 {
			for _, between := range []int{0, 1, before + after - 1, before + after, before + after + 1} {
				right(t, job(lettered(90, 20, 21+max(between, 0)), "[A-Z]", tells(api.TellContext, before, after)))
			}
		}
	}
}

func TestRunWithEnoughAheadOfAnError(t *testing.T) {
	first := tells(api.TellFirst, 0, 0)
	for _, c := range []struct {
		data string
		fail int
		want string
		err  api.Errno
	}{
		{"ab\nlonger\n", -1, "0:ab", api.OK}, {"aa\nlonger\nb", -1, "", api.ErrLong}, {"longer\nb", -1, "", api.ErrLong}, {"a\nb\nlongerb", -1, "1:b", api.OK}, {"b\nb\nlonger", -1, "0:b", api.OK},
		{"ab\ncc\n", 3, "0:ab", api.OK}, {"ab\ncc\n", 6, "0:ab", api.OK}, {"ab\ncc\n", 2, "", api.ErrSource}, {"ab\ncc\n", 0, "", api.ErrSource}, {"cc\nab\n", 5, "", api.ErrSource}, {"cc\nab\n", 6, "1:ab", api.OK}, {"cc\nab\n", 7, "1:ab", api.OK}, {"ab", 2, "", api.ErrSource}, {"ab", 3, "0:ab", api.OK}, {"cc\n", 3, "", api.ErrSource},
		{"b\nlonger\n", 8, "0:b", api.OK}, {"c\nlonger\n", 8, "", api.ErrLong}, {"c\nlonger\n", 7, "", api.ErrSource},
	} {
		comesTo(t, job(c.data, "b", first, failing(c.fail)), c.want, c.err)
	}
	// What isn't looked at is never enough.
	comesTo(t, job("a\nb\na\nlonger", "b", first, every(2)), "", api.ErrLong)
	comesTo(t, job("a\nb\nb\nlonger", "b", first, every(2)), "2:b", api.OK)
	comesTo(t, job("a\nb\nb\n", "b", first, every(2), failing(4)), "", api.ErrSource)
	comesTo(t, job("a\nb\nb\n", "b", first, every(2), failing(6)), "2:b", api.OK)
}

func TestRunWithAnErrorAndNotEnough(t *testing.T) {
	const text = "ab\ncc\nbb\ncc\n"
	for _, c := range []struct {
		way  func(*api.Job)
		want []string // by how many records are ahead of the error
	}{
		{tells(api.TellAll, 0, 0), []string{"", "0:1-2:b", "0:1-2:b", "0:1-2:b 2:0-1:b 2:1-2:b", "0:1-2:b 2:0-1:b 2:1-2:b"}},
		{tells(api.TellCount, 0, 0), []string{"", "", "", "", ""}},
		{tells(api.TellContext, 0, 0), []string{"", "0:ab", "0:ab", "0:ab -- 2:bb", "0:ab -- 2:bb"}},
		{tells(api.TellContext, 1, 0), []string{"", "0:ab", "0:ab", "0:ab 1-cc 2:bb", "0:ab 1-cc 2:bb"}},
		{tells(api.TellContext, 0, 1), []string{"", "0:ab", "0:ab 1-cc", "0:ab 1-cc 2:bb", "0:ab 1-cc 2:bb 3-cc"}},
		{tells(api.TellContext, 16, 16), []string{"", "0:ab", "0:ab 1-cc", "0:ab 1-cc 2:bb", "0:ab 1-cc 2:bb 3-cc"}},
	} {
		for n, want := range c.want {
			comesTo(t, job(text+"ab\nab", "b", c.way, failing(3*n)), want, api.ErrSource)
			comesTo(t, job(text+"ab\nab", "b", c.way, failing(3*n+2)), want, api.ErrSource)
			comesTo(t, job(text[:3*n], "b", c.way, failing(3*n)), want, api.ErrSource)
			comesTo(t, job(text[:3*n]+"longer\nab", "b", c.way), want, api.ErrLong)
			comesTo(t, job(text[:3*n]+"longer", "b", c.way), want, api.ErrLong)
			// Both: the record is too long ahead of where the source fails.
			comesTo(t, job(text[:3*n]+"longer\nab", "b", c.way, failing(3*n+6)), want, api.ErrLong)
			comesTo(t, job(text[:3*n]+"longer\nab", "b", c.way, failing(3*n+9)), want, api.ErrLong)
			comesTo(t, job(text[:3*n]+"longer\nab", "b", c.way, failing(3*n+5)), want, api.ErrSource)
		}
	}
	// With no error: the count, behind all.
	comesTo(t, job(text, "b", tells(api.TellCount, 0, 0)), "2 3", api.OK)
	comesTo(t, job(text, "b", tells(api.TellCount, 0, 0), failing(len(text)+1)), "2 3", api.OK)
}

// ways are all of telling, those with records beside by few numbers of them.
func ways() []func(*api.Job) {
	return []func(*api.Job){
		tells(api.TellAll, 0, 0), tells(api.TellFirst, 1, 1), tells(api.TellCount, 16, 16),
		tells(api.TellContext, 0, 0), tells(api.TellContext, 1, 0), tells(api.TellContext, 0, 1), tells(api.TellContext, 2, 2),
	}
}

func TestRunOfAllShortTexts(t *testing.T) {
	sample.Each([]byte("b\na"), 5, func(data []byte) {
		for at := -1; at <= len(data); at++ {
			for _, n := range []int{1, 2} {
				j := job(string(data), "b|^$", most(2), failing(at), every(n))
				for _, way := range ways() {
					lines, err := comes(with(j, way))
					runs(t, with(j, way), lines, err)
				}
			}
		}
	})
}

func TestRunOfAllShortRowsOfRecords(t *testing.T) {
	sample.Each([]string{"a\n", "bb\r\n", "\n", "abc\n"}, 5, func(records []string) {
		data := strings.Join(records, "")
		for _, n := range []int{0, 2, 3} {
			for _, long := range []int{2, 3} {
				j := job(data, "b", most(long), every(n))
				for _, way := range ways() {
					lines, err := comes(with(j, way))
					runs(t, with(j, way), lines, err)
				}
			}
		}
	})
}

// anyJob is a right one by a row of numbers.
func anyJob(next func(int) int) api.Job {
	patterns := []string{"b", "b+", "", "a|bb", "^a", "a$", "[^a]b", "\ufffd", "\u20ac.?", "ba*c", "q"}
	pieces := []string{"a", "b", "bb", "ab", "\n", "\n", "\r\n", "\r", "\u20ac", "\xff", "c", "\x00\n", "\n\x00", "\xd8\xdc"}
	var data strings.Builder
	data.WriteString([]string{"", "", "\xef\xbb\xbf", "\xff\xfe", "\xfe\xff"}[next(5)])
	for range next(1 << next(9)) {
		data.WriteString(pieces[next(len(pieces))])
	}
	j := job(data.String(), patterns[next(len(patterns))], most(1+next(4<<next(11))), coded(next(4)), every(next(5)-1), failing(-1))
	if next(3) == 0 {
		j.Fail = next(len(j.Data) + 3)
	}
	for _, f := range limited()[2:] {
		*f.of(&j) = f.least + next(f.most-f.least+1)
	}
	j.Refuse, j.Bad = next(9)-1, next(9)-1
	for range next(65) {
		j.Sizes = append(j.Sizes, next(9)-2)
	}
	return j
}

func TestRunOfAnyJobs(t *testing.T) {
	next := sample.Row(19)
	seen := map[string]int{}
	for range 6000 {
		j := anyJob(next)
		right(t, j)
		lines, err := comes(j)
		seen[fmt.Sprintf("%d, %d, %t", j.Tell, err, len(lines) > 0)]++
	}
	// There were enough of each kind: by TellCount there is a line just without an
	// error, by TellFirst just there.
	for tell := range 4 {
		for _, err := range []api.Errno{api.OK, api.ErrLong, api.ErrSource} {
			for _, some := range []bool{false, true} {
				never := tell == api.TellCount && some != (err == api.OK) || tell == api.TellFirst && some && err != api.OK
				if n := seen[fmt.Sprintf("%d, %d, %t", tell, err, some)]; (n < 20) != never {
					t.Errorf("%d jobs that tell by %d, have the error %d, and lines: %t", n, tell, err, some)
				}
			}
		}
	}
}

func TestRunOfMuchData(t *testing.T) {
	full := strings.Repeat("a", 4096) + "\n"
	long := strings.Repeat(full, 15)
	for _, c := range []struct{ data, pattern string }{
		{strings.Repeat("b\n", 32768), "b"}, {strings.Repeat("\n", 65536), ""}, {strings.Repeat("b\na\na\n", 10922), "b"}, {long + "b", "b"},
	} {
		for _, way := range []func(*api.Job){tells(api.TellAll, 0, 0), tells(api.TellFirst, 0, 0), tells(api.TellCount, 0, 0), tells(api.TellContext, 16, 16)} {
			j := job(c.data, c.pattern, most(4096), way)
			lines, err := comes(j)
			runs(t, j, lines, err)
		}
		right(t, job(c.data, c.pattern, most(4096), every(7), failing(len(c.data)-1)))
	}
	// By programs of nearly as many instructions as may be.
	right(t, job(long, "(a{0,50}){19}b|a", most(4096)))
	comesTo(t, job(full[:2000]+"\n"+full[:1999]+"\n"+full, "(a{50}){39}a{49}", most(4096), tells(api.TellCount, 0, 0)), "3 4", api.OK)
}
