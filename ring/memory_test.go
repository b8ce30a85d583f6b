package ring_test

import (
	"slices"
	"testing"

	"reedbed/api"
	"reedbed/ring"
	"reedbed/sample"
)

// P17.3

// spoilt is a hit that stands in place of others.
var spoilt = api.Hit{From: -7, To: -8}

// withHits is a ring into which items 0 to ahead of many were put, each with
// hits of its own, within longer lists: those that were handed in, whole.
func withHits(t *testing.T, places, many int) (*ring.Ring, [][]api.Hit) {
	t.Helper()
	r, _ := made(t, places)
	var wholes [][]api.Hit
	for n := range many {
		whole, part := sample.WithRoomOf(hits(n), spoilt)
		wholes = append(wholes, whole)
		if err := r.Put(api.Item{N: n, Hits: part}); err != api.OK {
			t.Fatalf("Put of %d: %v", n, err)
		}
	}
	return r, wholes
}

// hits are some, which tell a number.
func hits(n int) []api.Hit {
	return sample.Hits(n, n+1, n+2, n+3)
}

// handedOn: are an item's hits the very list that was handed in?
func handedOn(x api.Item, whole []api.Hit) bool {
	return len(x.Hits) == len(whole)-4 && &x.Hits[0] == &whole[0]
}

func TestHeldIsNewMemory(t *testing.T) {
	for _, places := range sizes() {
		r, m := made(t, places)
		do(t, r, m, puts(sample.Span(places)...)...)
		for range places + 1 {
			first, second := r.Held(), r.Held()
			slices.Reverse(first)
			sample.SpoilBy(first, sample.Item(77))
			if !sample.SameItems(second, m.held()) {
				t.Fatalf("%d places: an answer of Held changed with another one: %v", places, second)
			}
			told(t, r, m)
			do(t, r, m, deed{kind: 'n'})
			sample.SpoilBy(second, sample.Item(78))
			told(t, r, m)
		}
	}
}

func TestHeldBesideLaterCalls(t *testing.T) {
	for _, places := range sizes() {
		r, m := made(t, places)
		next := sample.Row(places)
		var answers, wants [][]api.Item
		for range 300 {
			answers, wants = append(answers, r.Held()), append(wants, m.held())
			do(t, r, m, deed{"pppn"[next(4)], m.given + next(places)}, deed{'p', m.given})
		}
		for k, all := range answers {
			if !sample.SameItems(all, wants[k]) {
				t.Fatalf("%d places: answer %d is now %v; want %v", places, k, all, wants[k])
			}
		}
	}
}

func TestHitsAreHandedOn(t *testing.T) {
	for _, places := range []int{1, 2, 3, 8, 64} {
		r, wholes := withHits(t, places, places)
		for n := range places {
			for i, x := range r.Held() {
				if !handedOn(x, wholes[n+i]) {
					t.Fatalf("%d places: Held has %v for %d; want the hits that were put", places, x, n+i)
				}
			}
			// One that is refused isn't kept instead.
			if err := r.Put(api.Item{N: n, Hits: sample.Hits(5, 6)}); err != api.ErrArg {
				t.Fatalf("%d places: Put of %d again: %v", places, n, err)
			}
			if x, ok := r.Next(); !ok || !handedOn(x, wholes[n]) {
				t.Fatalf("%d places: Next = %v, %t; want the hits that were put", places, x, ok)
			}
		}
		for n, whole := range wholes {
			if want := append(hits(n), spoilt, spoilt, spoilt, spoilt); !slices.Equal(whole, want) {
				t.Errorf("%d places: what was handed in is now %v; want %v", places, whole, want)
			}
		}
	}
}

func TestTheSameHitsInManyItems(t *testing.T) {
	whole, part := sample.WithRoomOf(hits(1), spoilt)
	r, _ := made(t, 4)
	for n := range 4 {
		if err := r.Put(api.Item{N: n, Hits: part}); err != api.OK {
			t.Fatalf("Put of %d: %v", n, err)
		}
	}
	for n := range 4 {
		for _, x := range r.Held() {
			if !handedOn(x, whole) {
				t.Fatalf("Held has %v; want the hits that were put", x)
			}
		}
		if x, ok := r.Next(); !ok || x.N != n || !handedOn(x, whole) {
			t.Fatalf("Next = %v, %t; want %d with the hits that were put", x, ok, n)
		}
	}
}

func TestItemsWithoutHits(t *testing.T) {
	_, part := sample.WithRoomOf([]api.Hit{}, spoilt)
	for _, none := range [][]api.Hit{nil, {}, part} {
		r, _ := made(t, 1)
		if err := r.Put(api.Item{N: 0, Hits: none}); err != api.OK {
			t.Fatalf("Put: %v", err)
		}
		if all := r.Held(); len(all) != 1 || len(all[0].Hits) != 0 {
			t.Fatalf("Held %v", all)
		}
		if x, ok := r.Next(); !ok || !sample.SameItem(x, api.Item{}) {
			t.Fatalf("Next = %v, %t", x, ok)
		}
	}
	if part = part[:4]; !slices.Equal(part, slices.Repeat([]api.Hit{spoilt}, 4)) {
		t.Errorf("spare room that was handed in is now %v", part)
	}
}

func TestAnyItem(t *testing.T) {
	all := sample.AnyItems()
	for i := range all {
		all[i].N = i
	}
	for _, places := range []int{len(all), 64} {
		r, _ := made(t, places)
		for i := range all {
			if err := r.Put(all[len(all)-1-i]); err != api.OK {
				t.Fatalf("%d places: Put: %v", places, err)
			}
		}
		if !sample.SameItems(r.Held(), all) {
			t.Errorf("%d places: Held of the tickets %d", places, sample.Numbers(r.Held()))
		}
		for _, want := range all {
			if x, ok := r.Next(); !ok || !sample.SameItem(x, want) {
				t.Errorf("%d places: Next = one of ticket %d, %t; want %d", places, x.N, ok, want.N)
			}
		}
	}
}

func TestWhatWasGivenStays(t *testing.T) {
	for _, places := range []int{1, 2, 5} {
		r, _ := made(t, places)
		var all []api.Item
		for n := range 40 {
			put(t, r, n, api.OK)
			x, ok := r.Next()
			if !ok {
				t.Fatalf("%d places: no Next behind Put of %d", places, n)
			}
			all = append(all, x)
		}
		// The places were used again and again since.
		if !sample.SameItems(all, sample.Items(sample.Span(40)...)) {
			t.Errorf("%d places: what was given is now %v", places, all)
		}
	}
}

func TestFromRingToRing(t *testing.T) {
	first, wholes := withHits(t, 5, 5)
	second, _ := made(t, 5)
	for n := range 5 {
		x, ok := first.Next()
		if !ok {
			t.Fatalf("no Next at %d", n)
		}
		x.N = 4 - n
		if err := second.Put(x); err != api.OK {
			t.Fatalf("Put of %d: %v", x.N, err)
		}
		if left := first.Held(); len(left) != 4-n || len(second.Held()) != n+1 {
			t.Fatalf("Held %v and %v", left, second.Held())
		}
	}
	for n := range 5 {
		if x, ok := second.Next(); !ok || x.N != n || !handedOn(x, wholes[4-n]) {
			t.Errorf("Next = %v, %t; want the hits of %d", x, ok, 4-n)
		}
	}
}
