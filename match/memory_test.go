package match_test

import (
	"slices"
	"testing"

	"reedbed/api"
	"reedbed/match"
	"reedbed/sample"
)

// P11.3

// patterns are ones in which each instruction is.
func patterns() []string {
	return []string{
		"", "a", "a*", "a*b|c|$", `^(ab|[a-cx\d]*|(\D|.){2,3})|(|\w)a*$`, `\d+`, "(a|b)*c", ".*", "^|$", "\ufffd|[^\ufffd]a", `[^\d\D]`,
	}
}

func TestAnswersAreNewMemory(t *testing.T) {
	text := "aab\u00e9\xffca 12abc"
	wantPlaces := sample.TextPlaces(text)
	places, others := match.Places(text), match.Places(text)
	sample.Spoil(places)
	if third := match.Places(text); !slices.Equal(others, wantPlaces) || !slices.Equal(third, wantPlaces) {
		t.Errorf("places %v, %v; want %v", others, third, wantPlaces)
	}
	for _, pattern := range patterns() {
		p := compiled(t, pattern)
		want := sample.Read(p, text).All()
		first, second := match.All(p, text), match.All(p, text)
		sample.SpoilBy(first, api.Hit{From: -7, To: -8})
		if third := match.All(p, text); !slices.Equal(second, want) || !slices.Equal(third, want) {
			t.Errorf("%q: %v, %v; want %v", pattern, second, third, want)
		}
	}
}

// TestWhatIsHandedInStays: the program, its sets, and what lies behind all of
// them, which isn't seen either.
func TestWhatIsHandedInStays(t *testing.T) {
	for _, pattern := range patterns() {
		for _, text := range append(strange(), "", "aab", "cab12") {
			want := sample.Read(compiled(t, pattern), text)
			p, stays := sample.RoomyProgram(compiled(t, pattern))
			for at := -1; at <= len(text)+1; at++ {
				if end, ok := match.Longest(p, text, at); !same(end, ok)(want.Longest(at)) {
					t.Errorf("%q in %q from %d: %d, %t", pattern, text, at, end, ok)
				}
				if hit, ok := match.First(p, text, at); !same(hit, ok)(want.First(at)) {
					t.Errorf("%q in %q from %d: %v, %t", pattern, text, at, hit, ok)
				}
			}
			if all := match.All(p, text); !slices.Equal(all, want.All()) {
				t.Errorf("%q in %q: %v; want %v", pattern, text, all, want.All())
			}
			if !stays() {
				t.Fatalf("%q in %q: it was changed: %v", pattern, text, p)
			}
		}
	}
	wrong, stays := sample.RoomyProgram([]api.Inst{split(1, 9), char(0, 'a', 'a')})
	match.All(wrong, "a")
	match.First(wrong, "a", 0)
	match.Longest(wrong, "a", 0)
	if !stays() {
		t.Errorf("it was changed: %v", wrong)
	}
}

// TestNothingIsKept: an answer depends on nothing that was asked ahead, nor on
// what becomes of a program.
func TestNothingIsKept(t *testing.T) {
	text := "xaab"
	p := compiled(t, "a+b?|x$")
	all, places := match.All(p, text), match.Places(text)
	sample.SpoilProgram(p)
	if !slices.Equal(all, hits(1, 4)) || !slices.Equal(places, []int{0, 1, 2, 3, 4}) {
		t.Errorf("it became %v, %v", all, places)
	}
	if got := match.All(p, text); len(got) != 0 {
		t.Errorf("of a program that isn't right any more: %v", got)
	}
	p = compiled(t, "a")
	for _, x := range []struct {
		r    int
		want []api.Hit
	}{{'a', hits(1, 2, 2, 3)}, {'b', hits(3, 4)}, {'x', hits(0, 1)}, {'y', nil}, {'a', hits(1, 2, 2, 3)}} {
		p[0].Set[0] = api.Range{Lo: x.r, Hi: x.r}
		if got := match.All(p, text); !slices.Equal(got, x.want) {
			t.Errorf("of %c: %v; want %v", x.r, got, x.want)
		}
	}
	for _, ahead := range [][]api.Inst{nil, {{Op: 9}}, {split(0, 0)}, compiled(t, "b*"), compiled(t, "(a|b)*c")} {
		for _, other := range append(strange(), "", "aaaaaaaaaa") {
			match.All(ahead, other)
			match.First(ahead, other, 1)
			match.Longest(ahead, other, 0)
			match.Places(other)
			finds(t, compiled(t, "a+b?"), text)
		}
	}
}
