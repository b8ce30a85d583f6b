package mode_test

import (
	"math"
	"strconv"
	"strings"
	"testing"

	"reedbed/api"
	"reedbed/sample"
)

// one is a record of a text, with hits.
func one(n int, text string, hits ...api.Hit) handed {
	return handed{api.Record{N: n, Text: text}, hits}
}

// P18.3, and P18.1's hits that are left out

func TestAll(t *testing.T) {
	for _, c := range []struct {
		all  []handed
		want string
	}{
		{nil, ""},
		{row("..."), ""},
		{row("h"), "0:0-1:a"},
		{row("h.h"), "0:0-1:a 2:0-1:c"},
		{[]handed{one(7, "")}, ""},
		{[]handed{one(7, "", sample.Hits(0, 0)...)}, "7:0-0:"},
		{[]handed{one(7, "abcdef", sample.Hits(0, 6)...)}, "7:0-6:abcdef"},
		{[]handed{one(7, "abcdef", sample.Hits(0, 0, 1, 4, 6, 6)...)}, "7:0-0: 7:1-4:bcd 7:6-6:"},
		{[]handed{one(7, "abcdef", sample.Hits(0, 2, 5, 6)...)}, "7:0-2:ab 7:5-6:f"},
		// Any hits, in any order, and the same again.
		{[]handed{one(7, "abc", sample.Hits(2, 3, 0, 2, 0, 2, 1, 3, 1, 1)...)}, "7:2-3:c 7:0-2:ab 7:0-2:ab 7:1-3:bc 7:1-1:"},
		{[]handed{one(0, "abcdefghijkl", sample.Hits(9, 10, 10, 12)...), one(1, "x", sample.Hits(0, 1)...)}, "0:9-10:j 0:10-12:kl 1:0-1:x"},
		{[]handed{one(3, "a:b-c", sample.Hits(1, 4)...)}, "3:1-4::b-"},
	} {
		wants(t, api.TellAll, 0, 0, c.all, c.want)
	}
}

func TestFirst(t *testing.T) {
	for _, c := range []struct {
		all  []handed
		want string
	}{
		{nil, ""},
		{row("..."), ""},
		{row("xxx"), ""},
		{row("h"), "0:a"},
		{row("m"), "0:a"},
		{row("..h.h"), "2:c"},
		{row(".xm.h"), "2:c"},
		{row("....m"), "4:e"},
		{[]handed{one(-5, "abc", sample.Hits(3, 3)...), one(6, "d", sample.Hits(0, 1)...)}, "-5:abc"},
		{[]handed{one(5, "", sample.Hits(0, 0)...)}, "5:"},
	} {
		wants(t, api.TellFirst, 0, 0, c.all, c.want)
	}
}

func TestCount(t *testing.T) {
	for _, c := range []struct {
		all  []handed
		want string
	}{
		{nil, "0 0"},
		{row("."), "0 0"},
		{row("..x.x"), "0 0"},
		{row("h"), "1 1"},
		{row("..h.h."), "2 2"},
		{row("m"), "1 5"},
		{row("m.xhm"), "3 11"},
		// The same record twice is two, a hit twice is too.
		{numbered(row("hh"), 4, 4), "2 2"},
		{[]handed{one(0, "ab", sample.Hits(0, 1, 0, 1, 2, 2)...)}, "1 3"},
		{row(strings.Repeat("h.", 600)), "600 600"},
	} {
		wants(t, api.TellCount, 0, 0, c.all, c.want)
	}
}

func TestHitsThatDoNotLieInTheText(t *testing.T) {
	for _, text := range []string{"", "a", "abc", strings.Repeat("ab", 3000)} {
		for _, h := range strayHits(len(text)) {
			alone := []handed{one(0, text, h)}
			beside := []handed{one(0, text, h, api.Hit{From: 0, To: len(text)}, h)}
			wants(t, api.TellAll, 0, 0, alone, "")
			wants(t, api.TellFirst, 0, 0, alone, "")
			wants(t, api.TellCount, 0, 0, alone, "0 0")
			wants(t, api.TellContext, 1, 1, alone, "")
			wants(t, api.TellFirst, 0, 0, beside, "0:"+text)
			wants(t, api.TellCount, 0, 0, beside, "1 1")
			wants(t, api.TellContext, 1, 1, beside, "0:"+text)
			x, m := made(t, api.TellAll, 0, 0)
			hand(t, x, m, beside...)
			if n := len(m.said); n != 1 {
				t.Fatalf("%v beside one of %d octets: %d lines", h, len(text), n)
			}
			// A record whose hits are all left out is one without.
			for _, k := range kinds() {
				x, m := made(t, k.tell, k.before, k.after)
				follow(t, x, m, one(0, "z"), alone[0], one(2, "y", sample.Hits(0, 1)...), alone[0])
				end(t, x, m)
			}
		}
	}
}

func TestEachHitOfAText(t *testing.T) {
	for _, text := range []string{"", "a", "ab", "a\u20acb", "\xff\x00\n"} {
		for from := -2; from <= len(text)+2; from++ {
			for to := -2; to <= len(text)+2; to++ {
				for _, k := range kinds() {
					x, m := made(t, k.tell, k.before, k.after)
					hand(t, x, m, one(0, text, sample.Hits(from, to)...))
					told(t, x, m)
					end(t, x, m)
				}
			}
		}
	}
}

func TestNumbers(t *testing.T) {
	for n, want := range map[int]string{
		0: "0", 9: "9", 10: "10", -1: "-1", -10: "-10", 1 << 32: "4294967296",
		math.MaxInt: "9223372036854775807", math.MaxInt - 1: "9223372036854775806",
		math.MinInt: "-9223372036854775808", math.MinInt + 1: "-9223372036854775807",
	} {
		all := []handed{one(n, "ab", sample.Hits(1, 2)...)}
		wants(t, api.TellAll, 0, 0, all, want+":1-2:b")
		wants(t, api.TellFirst, 0, 0, all, want+":ab")
		wants(t, api.TellCount, 0, 0, all, "1 1")
		wants(t, api.TellContext, 1, 1, all, want+":ab")
		wants(t, api.TellContext, 1, 0, []handed{one(n, "x"), one(n+1, "y", sample.Hits(0, 1)...)}, want+"-x "+strconv.Itoa(n+1)+":y")
		wants(t, api.TellContext, 0, 1, []handed{one(n-1, "y", sample.Hits(0, 1)...), one(n, "x")}, strconv.Itoa(n-1)+":y "+want+"-x")
	}
}

// P18.1 to P18.3

func TestAnyText(t *testing.T) {
	texts := append(sample.Strange(), "", " ", "\n", "\r\n", "--", "0:a", "0-a", "a b", "\x00", string(sample.Octets(70000)))
	for _, k := range kinds() {
		x, m := made(t, k.tell, k.before, k.after)
		for i, text := range texts {
			letter := ".h.m..."[i%7]
			follow(t, x, m, handed{api.Record{N: i, Text: text}, hitsOf(letter, text)})
		}
		end(t, x, m)
		told(t, x, m)
	}
}

func TestAtIsNotTold(t *testing.T) {
	for _, k := range kinds() {
		for _, at := range []int{math.MinInt, -1, 0, 1, math.MaxInt} {
			x, m := made(t, k.tell, k.before, k.after)
			for _, r := range row(".h..m.") {
				r.r.At = at
				follow(t, x, m, r)
			}
			end(t, x, m)
		}
	}
}

func TestManyHits(t *testing.T) {
	const many = 20000
	text := strings.Repeat("ab", many/2)
	var hits []api.Hit
	for i := range many {
		hits = append(hits, api.Hit{From: i, To: i + i%2})
	}
	for tell := range 4 {
		x, m := made(t, tell, 1, 1)
		hand(t, x, m, one(0, "a"), one(1, text, hits...), one(2, "b"))
		end(t, x, m)
		if want := []int{many, 1, 0, 3}[tell]; len(m.said) != want {
			t.Errorf("by %d: %d lines; want %d", tell, len(m.said), want)
		}
	}
}
