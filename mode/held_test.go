package mode_test

import (
	"slices"
	"strings"
	"testing"

	"reedbed/api"
)

// sized are records of texts of those lengths, each with the hits that a letter
// tells.
func sized(letters string, lengths ...int) []handed {
	var all []handed
	for i, n := range lengths {
		text := strings.Repeat("a", n)
		all = append(all, handed{api.Record{N: i, Text: text}, hitsOf(letters[i], text)})
	}
	return all
}

// P18.2

func TestHeld(t *testing.T) {
	for _, c := range []struct {
		before, after int
		letters       string
		held          []int // behind each; the texts have 1, 10, 100, .. octets
	}{
		{0, 0, ".....", []int{0, 0, 0, 0, 0}},
		{0, 2, "..h..", []int{0, 0, 0, 0, 0}},
		{1, 0, ".....", []int{1, 10, 100, 1000, 10000}},
		{2, 0, ".....", []int{1, 11, 110, 1100, 11000}},
		{3, 0, ".....", []int{1, 11, 111, 1110, 11100}},
		{16, 0, ".....", []int{1, 11, 111, 1111, 11111}},
		{16, 0, "xxxxx", []int{1, 11, 111, 1111, 11111}},
		// What is told, ahead of a hit, with it, or behind it, isn't held.
		{2, 0, "..h..", []int{1, 11, 0, 1000, 11000}},
		{16, 0, "h....", []int{0, 10, 110, 1110, 11110}},
		{16, 0, "..m.h", []int{1, 11, 0, 1000, 0}},
		{2, 1, "..h..", []int{1, 11, 0, 0, 10000}},
		{2, 2, "h....", []int{0, 0, 0, 1000, 11000}},
		{1, 2, "h....", []int{0, 0, 0, 1000, 10000}},
		{16, 16, "h....", []int{0, 0, 0, 0, 0}},
		{16, 3, "h....", []int{0, 0, 0, 0, 10000}},
		{1, 1, "h.h..", []int{0, 0, 0, 0, 10000}},
		{1, 1, "hh...", []int{0, 0, 0, 1000, 10000}},
		{1, 1, ".h.x.", []int{1, 0, 0, 1000, 10000}},
	} {
		x, m := made(t, api.TellContext, c.before, c.after)
		all := sized(c.letters, 1, 10, 100, 1000, 10000)
		for i, want := range c.held {
			follow(t, x, m, all[i])
			if x.Held() != want {
				t.Errorf("%d, %d, %q: Held %d behind record %d; want %d", c.before, c.after, c.letters, x.Held(), i, want)
			}
		}
		end(t, x, m)
		if x.Held() != 0 {
			t.Errorf("%d, %d, %q: Held %d behind End", c.before, c.after, c.letters, x.Held())
		}
	}
}

func TestHeldByTheOtherWays(t *testing.T) {
	for tell := range 3 {
		for _, beside := range []int{0, 1, 16} {
			x, m := made(t, tell, beside, beside)
			for i, r := range sized("..x.h..m....", 1, 2, 3, 4, 5, 6, 7, 8, 9, 10, 11, 5000) {
				follow(t, x, m, r)
				if x.Held() != 0 {
					t.Fatalf("by %d: Held %d behind record %d", tell, x.Held(), i)
				}
			}
			end(t, x, m)
			if x.Held() != 0 {
				t.Fatalf("by %d: Held %d behind End", tell, x.Held())
			}
		}
	}
}

func TestHeldOfAtMostBefore(t *testing.T) {
	for before := range 17 {
		x, m := made(t, api.TellContext, before, 2)
		for n := range 60 {
			follow(t, x, m, sized(".", 100)...)
			if want := 100 * min(n+1, before); x.Held() != want {
				t.Fatalf("before %d: Held %d behind %d records; want %d", before, x.Held(), n+1, want)
			}
		}
		// Empty ones push the others out.
		for n := range before + 1 {
			if want := 100 * (before - n); x.Held() != want {
				t.Fatalf("before %d: Held %d behind %d empty ones; want %d", before, x.Held(), n, want)
			}
			follow(t, x, m, sized(".", 0)...)
		}
		follow(t, x, m, sized(".....", 1, 2, 3, 4, 5)...)
		follow(t, x, m, sized("h", 7)...)
		if x.Held() != 0 {
			t.Errorf("before %d: Held %d behind one that has hits", before, x.Held())
		}
	}
}

func TestHeldIsWhatMayBeTold(t *testing.T) {
	for before := range 17 {
		for _, letters := range []string{".", "....", "h..", "..h.....", strings.Repeat(".", 40), "h" + strings.Repeat(".", 40)} {
			x, m := made(t, api.TellContext, before, 1)
			hand(t, x, m, row(letters)...)
			held := x.Held()
			// Each has one octet: so many of them are told with the next hit.
			lines := x.Add(api.Record{N: len(letters), Text: "z"}, api.Hit{})
			lines = slices.DeleteFunc(lines, func(l string) bool { return l == "--" })
			if len(lines) != held+1 {
				t.Errorf("before %d, %q: Held %d, but the next hit tells %q", before, letters, held, lines)
			}
		}
	}
}
