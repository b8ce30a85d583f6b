package engine_test

import (
	"slices"
	"testing"

	"reedbed/api"
	"reedbed/engine"
	"reedbed/sample"
)

// P13.4

// few are texts in which most patterns are.
func few() []string {
	return append(strange(), "", "a", "b", "aab", "abab", "aabab\n", "\u00e9a\u00e9\u00e8", "\u20ac\u20ada\u20ac", "a\ufffd\ufffea\xff", "ab\xffab")
}

// answers are all of an engine's, of a text.
type answers struct {
	all          []api.Hit
	is           bool
	count, size  int
	prefix       string
	whole        bool
	quote, other string
}

func asked(e *engine.Engine, text string) answers {
	var x answers
	x.all, x.is, x.count = e.All(text), e.Is(text), e.Count(text)
	x.size = e.Size()
	x.prefix, x.whole = e.Prefix()
	x.quote, x.other = engine.Quote(text), engine.Quote("a."+text)
	return x
}

func (x answers) same(y answers) bool {
	return slices.Equal(x.all, y.all) && x.is == y.is && x.count == y.count && x.size == y.size && x.prefix == y.prefix && x.whole == y.whole && x.quote == y.quote && x.other == y.other
}

// TestNothingIsKept: an engine answers alike, whatever it was asked ahead.
func TestNothingIsKept(t *testing.T) {
	asks := []func(e *engine.Engine, text string){
		func(e *engine.Engine, text string) { e.All(text) },
		func(e *engine.Engine, text string) { e.Is(text) },
		func(e *engine.Engine, text string) { e.Count(text) },
		func(e *engine.Engine, text string) { e.Prefix() },
		func(e *engine.Engine, text string) { e.Size() },
	}
	for _, pattern := range patterns() {
		used := made(t, pattern)
		for _, text := range few() {
			want := asked(made(t, pattern), text)
			if got := asked(used, text); !got.same(want) {
				t.Fatalf("%q in %q: %v; want %v", pattern, text, got, want)
			}
			// One call alone ahead, of this text and of another.
			for _, ask := range asks {
				for _, ahead := range []string{text, "", "aaab\xff", "xab" + text} {
					e := made(t, pattern)
					ask(e, ahead)
					if got := asked(e, text); !got.same(want) {
						t.Fatalf("%q in %q, behind %q: %v; want %v", pattern, text, ahead, got, want)
					}
				}
			}
		}
	}
}

// TestSideBySide: engines beside one another, of one pattern and of two, and of
// what is none between.
func TestSideBySide(t *testing.T) {
	all := patterns()
	for i, pattern := range all {
		other := all[(i+17)%len(all)]
		first, second, third := made(t, pattern), made(t, other), made(t, pattern)
		for _, text := range few() {
			want, between := asked(made(t, pattern), text), asked(made(t, other), text)
			for range 2 {
				if got := asked(first, text); !got.same(want) {
					t.Fatalf("%q beside %q, in %q: %v; want %v", pattern, other, text, got, want)
				}
				if got := asked(second, text); !got.same(between) {
					t.Fatalf("%q beside %q, in %q: %v; want %v", other, pattern, text, got, between)
				}
				none(t, api.ErrPattern, pattern+"(", "*"+other)
			}
			if got := asked(third, text); !got.same(want) {
				t.Fatalf("%q again, in %q: %v; want %v", pattern, text, got, want)
			}
		}
	}
}

// TestAnswersAreNewMemory: what becomes of an answer changes no other one.
func TestAnswersAreNewMemory(t *testing.T) {
	for _, pattern := range patterns() {
		e, beside := made(t, pattern), made(t, pattern)
		for _, text := range few() {
			want := asked(made(t, pattern), text)
			first, second, others := e.All(text), e.All(text), beside.All(text)
			slices.Reverse(first)
			sample.SpoilBy(first, api.Hit{From: -7, To: -8})
			if !slices.Equal(second, want.all) || !slices.Equal(others, want.all) {
				t.Fatalf("%q in %q: now %v, %v; want %v", pattern, text, second, others, want.all)
			}
			sample.SpoilBy(second, api.Hit{From: 9, To: 9})
			for _, e := range []*engine.Engine{e, beside} {
				if got := asked(e, text); !got.same(want) {
					t.Fatalf("%q in %q: then %v; want %v", pattern, text, got, want)
				}
			}
		}
	}
}

// TestWhatIsHandedInStays: patterns and texts are parts of longer ones, which
// aren't seen.
func TestWhatIsHandedInStays(t *testing.T) {
	for _, pattern := range patterns() {
		for _, text := range few() {
			want := asked(made(t, pattern), text)
			longPattern, longText := "a("+pattern+")*\xff", "ab"+text+"ab"
			part, within := longPattern[2:2+len(pattern)], longText[2:2+len(text)]
			e := made(t, part)
			for range 2 {
				if got := asked(e, within); !got.same(want) {
					t.Fatalf("%q in %q, as parts: %v; want %v", pattern, text, got, want)
				}
			}
			if longPattern != "a("+pattern+")*\xff" || longText != "ab"+text+"ab" {
				t.Fatalf("%q in %q: they became %q, %q", pattern, text, longPattern, longText)
			}
		}
	}
}
