package mode_test

import (
	"slices"
	"testing"
	"unsafe"

	"reedbed/api"
	"reedbed/mode"
	"reedbed/sample"
)

// P18.3

// spoilt is a hit that stands in place of others.
var spoilt = api.Hit{From: -7, To: 1}

// apart adds a record whose hits are handed in as a list within a longer one,
// and whose text is lent; behind that both are spoilt.
func apart(t *testing.T, x *mode.Teller, r handed) []string {
	t.Helper()
	whole, part := sample.WithRoomOf(r.hits, spoilt)
	b := []byte(r.r.Text)
	lent := r.r
	lent.Text = unsafe.String(unsafe.SliceData(b), len(b))
	lines := x.Add(lent, part...)
	if want := append(slices.Clone(r.hits), spoilt, spoilt, spoilt, spoilt); !slices.Equal(whole, want) || string(b) != r.r.Text {
		t.Fatalf("what was handed in is now %v, %q; want %v, %q", whole, b, want, r.r.Text)
	}
	sample.SpoilBy(whole, api.Hit{From: 0, To: 0})
	sample.Spoil(b)
	return lines
}

func TestWhatIsHandedInIsNotKept(t *testing.T) {
	for i, k := range kinds() {
		x, m := made(t, k.tell, k.before, k.after)
		var answers, wants [][]string
		for _, r := range longWalk(i, 120, 7, 9) {
			answers, wants = append(answers, apart(t, x, r)), append(wants, m.add(r))
			told(t, x, m)
		}
		answers, wants = append(answers, x.End()), append(wants, m.end())
		for i, lines := range answers {
			if !slices.Equal(lines, wants[i]) {
				t.Fatalf("%v: answer %d: %q; want %q", k, i, lines, wants[i])
			}
		}
	}
}

func TestHitsOneByOneAndAsAList(t *testing.T) {
	const text = "abcdef"
	hits := sample.Hits(0, 1, 9, 9, 2, 4, 6, 6)
	for _, k := range kinds() {
		one, m := made(t, k.tell, k.before, k.after)
		list, n := made(t, k.tell, k.before, k.after)
		hand(t, one, m, row("..")...)
		hand(t, list, n, row("..")...)
		r := api.Record{N: 2, Text: text}
		want := m.add(handed{r, hits})
		if lines := one.Add(r, hits[0], hits[1], hits[2], hits[3]); !slices.Equal(lines, want) {
			t.Errorf("%v: hits one by one tell %q; want %q", k, lines, want)
		}
		if lines := list.Add(r, hits...); !slices.Equal(lines, want) {
			t.Errorf("%v: hits as a list tell %q; want %q", k, lines, want)
		}
		if want := sample.Hits(0, 1, 9, 9, 2, 4, 6, 6); !slices.Equal(hits, want) {
			t.Fatalf("%v: what was handed in is now %v; want %v", k, hits, want)
		}
		want = m.end()
		if a, b := one.End(), list.End(); !slices.Equal(a, want) || !slices.Equal(b, want) {
			t.Errorf("%v: End = %q and %q; want %q", k, a, b, want)
		}
	}
}

func TestNoHits(t *testing.T) {
	_, part := sample.WithRoomOf([]api.Hit{}, api.Hit{})
	for _, k := range kinds() {
		x, m := made(t, k.tell, k.before, k.after)
		for _, none := range [][]api.Hit{nil, {}, part} {
			follow(t, x, m, row("..")...)
			follow(t, x, m, one(2, "abc", none...))
		}
		follow(t, x, m, row("h")...)
		end(t, x, m)
	}
}

func TestAnswersAreNewMemory(t *testing.T) {
	for i, k := range kinds() {
		kept, m := made(t, k.tell, k.before, k.after)
		spoils, _ := made(t, k.tell, k.before, k.after)
		var answers, wants [][]string
		for _, r := range longWalk(i, 120, 5, 9) {
			want := m.add(r)
			answers, wants = append(answers, kept.Add(r.r, r.hits...)), append(wants, want)
			lines := spoils.Add(r.r, r.hits...)
			if !slices.Equal(lines, want) {
				t.Fatalf("%v: Add = %q behind a change to the answers; want %q", k, lines, want)
			}
			sample.SpoilBy(lines, "spoilt")
			told(t, spoils, m)
		}
		want := m.end()
		answers, wants = append(answers, kept.End()), append(wants, want)
		if lines := spoils.End(); !slices.Equal(lines, want) {
			t.Fatalf("%v: End = %q behind a change to the answers; want %q", k, lines, want)
		}
		for i, lines := range answers {
			if !slices.Equal(lines, wants[i]) {
				t.Fatalf("%v: answer %d is now %q; want %q", k, i, lines, wants[i])
			}
		}
	}
}

func TestTheSameHitsByManyTellers(t *testing.T) {
	hits := sample.Hits(0, 1, 1, 1)
	for _, k := range kinds() {
		x, m := made(t, k.tell, k.before, k.after)
		for n := range 4 {
			follow(t, x, m, one(n, "a", hits...))
		}
		end(t, x, m)
	}
	if !slices.Equal(hits, sample.Hits(0, 1, 1, 1)) {
		t.Errorf("what was handed in is now %v", hits)
	}
}
