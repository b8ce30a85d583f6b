package ring_test

import (
	"math"
	"slices"
	"testing"

	"reedbed/api"
	"reedbed/ring"
	"reedbed/sample"
)

// P17.2

func TestPutOfTheExample(t *testing.T) {
	r, _ := made(t, 3)
	put(t, r, 1, api.OK)
	notGiven(t, r)
	put(t, r, 0, api.OK)
	given(t, r, 0, 1)
	put(t, r, 5, api.ErrBig)
	put(t, r, 4, api.OK)
}

func TestPutAtItsEdges(t *testing.T) {
	for _, places := range sizes() {
		for _, ticket := range []int{0, 1, 2, places - 1, places, places + 1, 200} {
			last := ticket + places - 1
			for _, c := range []struct {
				ticket int
				want   api.Errno
			}{
				{ticket, api.OK}, {last, api.OK}, {ticket + places/2, api.OK},
				{ticket - 1, api.ErrArg}, {ticket - places, api.ErrArg}, {-1, api.ErrArg}, {-places, api.ErrArg}, {-1 << 32, api.ErrArg}, {math.MinInt, api.ErrArg}, {math.MinInt + ticket, api.ErrArg},
				{last + 1, api.ErrBig}, {last + 2, api.ErrBig}, {last + places, api.ErrBig}, {ticket + 1<<32, api.ErrBig}, {math.MaxInt, api.ErrBig}, {math.MaxInt - places, api.ErrBig},
			} {
				r, m := gone(t, places, ticket)
				put(t, r, c.ticket, c.want)
				if c.want == api.OK {
					m.took = append(m.took, sample.Item(c.ticket))
				}
				told(t, r, m)
			}
		}
	}
}

func TestPutOfOneThatIsThere(t *testing.T) {
	for _, places := range sizes() {
		for _, ticket := range []int{0, 1, places, 77} {
			for n := ticket; n < ticket+places; n++ {
				r, m := gone(t, places, ticket)
				follow(t, r, m, deed{'p', n})
				// The one that is there stays, whatever comes with its ticket.
				do(t, r, m, puts(n, n)...)
				if err := r.Put(api.Item{N: n}); err != api.ErrArg {
					t.Fatalf("%d places, next %d: Put of %d again = %v", places, ticket, n, err)
				}
				told(t, r, m)
			}
		}
	}
}

func TestPutOfOneThatWasGiven(t *testing.T) {
	for _, places := range sizes() {
		r, m := made(t, places)
		for n := range 3 * places {
			do(t, r, m, deed{'p', n}, deed{kind: 'n'})
			for back := range n + 1 {
				do(t, r, m, deed{'p', back})
			}
			told(t, r, m)
		}
	}
}

func TestPutIntoAFullRing(t *testing.T) {
	for _, places := range sizes() {
		r, m := gone(t, places, 5)
		do(t, r, m, puts(sample.Span(5 + places)[5:]...)...)
		told(t, r, m)
		for n := range 2*places + 12 {
			do(t, r, m, deed{'p', n})
		}
		told(t, r, m)
		// Behind each one that is given there is room for just one more.
		for n := range 3 * places {
			do(t, r, m, deed{kind: 'n'})
			do(t, r, m, puts(6+n+places, 5+n+places, 5+n+places, 6+n+places)...)
			told(t, r, m)
		}
	}
}

func TestPutInRisingAndFallingOrder(t *testing.T) {
	for _, places := range sizes() {
		for _, start := range []int{0, 1, places, 50} {
			rising := sample.Span(start + places)[start:]
			falling := slices.Clone(rising)
			slices.Reverse(falling)
			for _, tickets := range [][]int{rising, falling} {
				r, m := gone(t, places, start)
				follow(t, r, m, puts(tickets...)...)
				if len(r.Held()) != places {
					t.Fatalf("%d places: Held %v", places, r.Held())
				}
				follow(t, r, m, nexts(places+1)...)
				if r.Ticket() != start+places {
					t.Fatalf("%d places: Ticket %d; want %d", places, r.Ticket(), start+places)
				}
			}
		}
	}
}

func TestPutInEachOrder(t *testing.T) {
	for places := 1; places <= 5; places++ {
		for _, start := range []int{0, 1, places} {
			sample.Each(sample.Span(places), places, func(order []int) {
				var tickets []int
				for _, n := range order {
					tickets = append(tickets, start+n)
				}
				// Given at the end, and as soon as it is there. Those that come
				// twice are there, or were given.
				r, m := gone(t, places, start)
				do(t, r, m, puts(tickets...)...)
				told(t, r, m)
				do(t, r, m, nexts(places+1)...)
				told(t, r, m)
				r, m = gone(t, places, start)
				for _, d := range puts(tickets...) {
					do(t, r, m, d)
					do(t, r, m, nexts(len(r.Held())+1)...)
				}
				told(t, r, m)
			})
		}
	}
}

func TestNextOfAnEmptyRing(t *testing.T) {
	for _, places := range sizes() {
		for _, start := range []int{0, 1, places} {
			r, m := gone(t, places, start)
			for range 3 {
				notGiven(t, r)
			}
			told(t, r, m)
			put(t, r, start, api.OK)
			given(t, r, start)
			notGiven(t, r)
		}
	}
}

func TestNextWithoutTheNextOne(t *testing.T) {
	for _, places := range sizes()[1:] {
		for gap := range places {
			r, m := gone(t, places, 9)
			var rest []int
			for i := range places {
				if i != gap {
					rest = append(rest, 9+i)
				}
			}
			// All are there but the one in the gap.
			do(t, r, m, puts(rest...)...)
			told(t, r, m)
			follow(t, r, m, nexts(gap+2)...)
			if r.Ticket() != 9+gap || r.Ready() || len(r.Held()) != places-1-gap {
				t.Fatalf("%d places: Ticket %d, Ready %t, Held %v behind a gap at %d", places, r.Ticket(), r.Ready(), r.Held(), 9+gap)
			}
			follow(t, r, m, deed{'p', 9 + gap})
			if !r.Ready() {
				t.Fatalf("%d places: not Ready, though %d is there", places, 9+gap)
			}
			do(t, r, m, nexts(places-gap+1)...)
			told(t, r, m)
		}
	}
}

func TestReadyIsWhatNextWouldAnswer(t *testing.T) {
	for _, places := range sizes() {
		next := sample.Row(3 * places)
		r, m := made(t, places)
		for range 1000 {
			do(t, r, m, deed{'p', m.given + next(min(places, 3))})
			ready, ticket := r.Ready(), r.Ticket()
			x, ok := r.Next()
			if want, wants := m.next(); ready != ok || ok != wants || !sample.SameItem(x, want) || ok && x.N != ticket {
				t.Fatalf("%d places: Ready %t, Ticket %d, but Next %v, %t; want %v, %t", places, ready, ticket, x, ok, want, wants)
			}
		}
	}
}

func TestRoundAndRound(t *testing.T) {
	for _, places := range sizes() {
		r, _ := made(t, places)
		// Downwards, from another place on round by round.
		for round := range 200 {
			first := round * places
			for i := range places {
				put(t, r, first+(places-1-i+round)%places, api.OK)
			}
			put(t, r, first+places, api.ErrBig)
			given(t, r, sample.Span(first + places)[first:]...)
			notGiven(t, r)
			put(t, r, first+places-1, api.ErrArg)
		}
	}
}

func TestFarOn(t *testing.T) {
	for _, places := range []int{1, 3, 64} {
		r := ringOf(t, places, sample.Span(places)...)
		const many = 1 << 18
		for n := range many {
			if x, ok := r.Next(); !ok || x.N != n {
				t.Fatalf("%d places: Next = %v, %t; want %d", places, x, ok, n)
			}
			if one, two := r.Put(api.Item{N: n + places + 1}), r.Put(api.Item{N: n + places}); one != api.ErrBig || two != api.OK {
				t.Fatalf("%d places: Put behind %d = %v, %v", places, n, one, two)
			}
		}
		if ns := sample.Numbers(r.Held()); r.Ticket() != many || !slices.Equal(ns, sample.Span(many + places)[many:]) {
			t.Errorf("%d places: Ticket %d, Held %d", places, r.Ticket(), ns)
		}
	}
}

// P17.1 to P17.3

func TestAllShortWays(t *testing.T) {
	deeds := append(puts(-1, 0, 1, 2, 3, 4), nexts(1)...)
	for places := 1; places <= 4; places++ {
		sample.Each(deeds, 5, func(way []deed) {
			// What it tells behind the beginnings of the way was seen at these.
			r, m := made(t, places)
			do(t, r, m, way...)
			told(t, r, m)
		})
	}
}

func TestLongWays(t *testing.T) {
	for _, places := range sizes() {
		for _, kinds := range []string{"pn", "ppn", "pppppn", "pnn", "ppppppppppppppppn"} {
			next := sample.Row(100*places + len(kinds))
			r, m := made(t, places)
			for range 600 {
				way := []deed{{kinds[next(len(kinds))], m.given - 1 + next(places+2)}}
				if next(4) == 0 {
					way = append(way, deed{'p', m.given})
				}
				follow(t, r, m, way...)
			}
			if m.given < 20 {
				t.Errorf("%d places, %s: %d were given", places, kinds, m.given)
			}
		}
	}
}

// P17.3

func TestInOrderWithoutAGap(t *testing.T) {
	for _, places := range sizes() {
		next := sample.Row(places)
		r, _ := made(t, places)
		var all []api.Item
		for range 9000 {
			r.Put(sample.Item(len(all) + next(places)))
			for range next(3) {
				if x, ok := r.Next(); ok {
					all = append(all, x)
				}
			}
		}
		if want := sample.Items(sample.Span(len(all))...); len(all) < 100 || !sample.SameItems(all, want) {
			t.Errorf("%d places: given were %d", places, sample.Numbers(all))
		}
	}
}

func TestTwoRingsBesideOneAnother(t *testing.T) {
	one, two := ringOf(t, 2, 0, 1), ringOf(t, 3, 2)
	given(t, one, 0)
	put(t, one, 3, api.ErrBig)
	put(t, two, 0, api.OK)
	put(t, one, 2, api.OK)
	given(t, two, 0)
	given(t, one, 1, 2)
	notGiven(t, two)
	notGiven(t, one)
	if !sample.SameItems(two.Held(), sample.Items(2)) || len(one.Held()) != 0 {
		t.Errorf("Held %v and %v", one.Held(), two.Held())
	}
}

func TestRingsStandAlone(t *testing.T) {
	next := sample.Row(17)
	var rings []*ring.Ring
	var plains []*plain
	for _, places := range []int{1, 2, 2, 5} {
		r, m := made(t, places)
		rings, plains = append(rings, r), append(plains, m)
	}
	for range 3000 {
		k := next(len(rings))
		do(t, rings[k], plains[k], deed{"ppn"[next(3)], plains[k].given - 1 + next(plains[k].places+2)})
		for i := range rings {
			told(t, rings[i], plains[i])
		}
	}
}
