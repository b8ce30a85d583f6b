package pipe_test

import (
	"slices"
	"testing"

	"reedbed/api"
	"reedbed/pipe"
	"reedbed/sample"
)

// P14.5

// hits are some, which tell a number.
func hits(n int) []api.Hit {
	return sample.Hits(n, n+1, n+2, n+3, n+4, n+5)
}

// spoilt is a hit that stands in place of others.
var spoilt = api.Hit{From: -7, To: -8}

// withHits is a pipe into which each of so many senders sent an item with hits
// by its number.
func withHits(t *testing.T, room, many int) *pipe.Pipe {
	t.Helper()
	p := made(t, room)
	for n := range many {
		if _, err := p.Send(n, api.Item{N: n, Hits: hits(n)}); err != api.OK {
			t.Fatalf("Send %d: %v", n, err)
		}
	}
	return p
}

// haveHits holds items against those of numbers from first on.
func haveHits(t *testing.T, all []api.Item, first, many int) {
	t.Helper()
	if len(all) != many {
		t.Fatalf("%d items; want %d", len(all), many)
	}
	for i, x := range all {
		if !sample.SameItem(x, api.Item{N: first + i, Hits: hits(first + i)}) {
			t.Fatalf("item %d is %v", first+i, x)
		}
	}
}

func TestItemsAreNewMemory(t *testing.T) {
	for _, room := range []int{0, 1, 3, 6} {
		const many = 6
		p := withHits(t, room, many)
		for n := range many {
			first, second := p.Items(), p.Items()
			slices.Reverse(first)
			haveHits(t, second, n, many-n)
			for _, x := range first {
				sample.SpoilBy(x.Hits, spoilt)
			}
			sample.SpoilBy(first, sample.Item(77))
			haveHits(t, second, n, many-n)
			haveHits(t, p.Items(), n, many-n)
			if x, err := p.Take(); err != api.OK || !sample.SameItem(x, api.Item{N: n, Hits: hits(n)}) {
				t.Fatalf("room %d: Take = %v, %v; want %d", room, x, err, n)
			}
			// What was answered ahead stays as it is.
			haveHits(t, second, n, many-n)
		}
		sample.SpoilBy(p.Items(), sample.Item(77))
		told(t, p, state{sent: many})
	}
}

func TestItemsBesideLaterCalls(t *testing.T) {
	p, m := made(t, 2), &plain{room: 2}
	next := sample.Row(5)
	var answers [][]api.Item
	var wants [][]int
	for range 300 {
		answers, wants = append(answers, p.Items()), append(wants, m.state().items)
		follow(t, p, m, deed{"ssswtt"[next(6)], next(5)})
	}
	for k, all := range answers {
		if !sample.SameItems(all, sample.Items(wants[k]...)) {
			t.Fatalf("answer %d is now %d; want %d", k, sample.Numbers(all), wants[k])
		}
	}
}

func TestTheSameHitsInManyItems(t *testing.T) {
	h := hits(1)
	p := made(t, 2)
	for who := range 4 {
		if _, err := p.Send(who, api.Item{N: who, Hits: h}); err != api.OK {
			t.Fatal(err)
		}
	}
	// No two lists of an answer share any.
	all := p.Items()
	for k := range all {
		sample.SpoilBy(all[k].Hits, api.Hit{From: k, To: k})
	}
	for k := range all {
		if want := sample.Hits(k, k, k, k, k, k); !slices.Equal(all[k].Hits, want) {
			t.Errorf("item %d has the hits %v; want %v", k, all[k].Hits, want)
		}
	}
	for who := range 4 {
		if x, err := p.Take(); err != api.OK || !sample.SameItem(x, api.Item{N: who, Hits: hits(1)}) {
			t.Errorf("Take = %v, %v; want %d", x, err, who)
		}
	}
	if !slices.Equal(h, hits(1)) {
		t.Errorf("what was handed in is now %v", h)
	}
}

func TestHitsAreHandedOn(t *testing.T) {
	for _, room := range []int{0, 1, 2, 5} {
		p := made(t, room)
		var wholes [][]api.Hit
		for n := range 5 {
			whole, part := sample.WithRoomOf(hits(n), spoilt)
			wholes = append(wholes, whole)
			if _, err := p.Send(n, api.Item{N: n, Hits: part}); err != api.OK {
				t.Fatal(err)
			}
		}
		p.Withdraw(4)
		for n := range 4 {
			x, err := p.Take()
			if err != api.OK || len(x.Hits) != 3 || &x.Hits[0] != &wholes[n][0] {
				t.Fatalf("room %d: Take = %v, %v; want the hits that were sent", room, x, err)
			}
		}
		for n, whole := range wholes {
			if want := append(hits(n), spoilt, spoilt, spoilt, spoilt); !slices.Equal(whole, want) {
				t.Errorf("room %d: what was handed in is now %v; want %v", room, whole, want)
			}
		}
	}
}

func TestItemsWithoutHits(t *testing.T) {
	_, part := sample.WithRoomOf([]api.Hit{}, spoilt)
	for _, none := range [][]api.Hit{nil, {}, part} {
		for _, room := range []int{0, 1} {
			p := made(t, room)
			if _, err := p.Send(1, api.Item{N: 1, Hits: none}); err != api.OK {
				t.Fatal(err)
			}
			all := p.Items()
			if len(all) != 1 || len(all[0].Hits) != 0 {
				t.Fatalf("room %d: Items %v", room, all)
			}
			sample.SpoilBy(all[0].Hits, api.Hit{})
			if x, err := p.Take(); err != api.OK || !sample.SameItem(x, api.Item{N: 1}) {
				t.Fatalf("room %d: Take = %v, %v", room, x, err)
			}
		}
	}
	if part = part[:4]; !slices.Equal(part, slices.Repeat([]api.Hit{spoilt}, 4)) {
		t.Errorf("spare room that was handed in is now %v", part)
	}
}

func TestWhatWasTakenStays(t *testing.T) {
	for _, room := range []int{0, 1, 3} {
		p := withHits(t, room, 5)
		var all []api.Item
		for range 5 {
			x, err := p.Take()
			if err != api.OK {
				t.Fatal(err)
			}
			all = append(all, x)
			if _, err := p.Send(50, api.Item{N: 50, Hits: hits(50)}); err != api.OK {
				t.Fatal(err)
			}
			p.Withdraw(50)
		}
		haveHits(t, all, 0, 5)
	}
}

func TestAnyItem(t *testing.T) {
	all := sample.AnyItems()
	for _, room := range []int{0, 1, 4, 8} {
		p := made(t, room)
		for i, x := range all {
			if done, err := p.Send(i, x); done != (i < room) || err != api.OK {
				t.Fatalf("room %d: Send of item %d = %t, %v", room, i, done, err)
			}
		}
		if got := p.Items(); !sample.SameItems(got, all) {
			t.Errorf("room %d: Items of the numbers %d", room, sample.Numbers(got))
		}
		for i, want := range all {
			if x, err := p.Take(); err != api.OK || !sample.SameItem(x, want) {
				t.Errorf("room %d: Take = one of number %d, %v; want item %d", room, x.N, err, i)
			}
		}
	}
}

func TestPipesStandAlone(t *testing.T) {
	next := sample.Row(9)
	var pipes []*pipe.Pipe
	var plains []*plain
	for _, room := range []int{0, 1, 1, 3} {
		pipes, plains = append(pipes, made(t, room)), append(plains, &plain{room: room})
	}
	for range 6000 {
		k := next(len(pipes))
		// The same sender may wait at each of them.
		follow(t, pipes[k], plains[k], deed{"sssswttt"[next(8)], next(4)})
		for i := range pipes {
			sameState(t, pipes[i], plains[i])
		}
	}
	for k, p := range pipes {
		for p.Sent() > len(plains[k].taken) {
			follow(t, p, plains[k], deed{kind: 't'})
		}
		follow(t, p, plains[k], deed{kind: 'c'}, deed{kind: 't'})
		for i, other := range pipes {
			if other.Closed() != (i <= k) {
				t.Fatalf("pipe %d is closed behind Close of pipe %d: %t", i, k, other.Closed())
			}
		}
	}
}

func TestFromPipeToPipe(t *testing.T) {
	first, second := withHits(t, 3, 5), made(t, 2)
	for n := range 5 {
		x, err := first.Take()
		if err != api.OK {
			t.Fatal(err)
		}
		if done, err := second.Send(1-n, x); done != (n < 2) || err != api.OK {
			t.Fatalf("Send %d = %t, %v", n, done, err)
		}
		haveHits(t, second.Items(), 0, n+1)
		haveHits(t, first.Items(), n+1, 4-n)
	}
	closeIt(t, first, api.OK)
	closeIt(t, second, api.ErrBusy)
}

func TestManyOffers(t *testing.T) {
	const many = 2000
	p, want := full(t, 64, 64)
	for i := range many {
		send(t, p, 100+i, 100+i, false)
	}
	for i := 0; i < many; i += 2 {
		withdraw(t, p, 100+i, true)
		withdraw(t, p, 100+i, false)
	}
	take(t, p, want.items...)
	for i := 1; i < many; i += 2 {
		take(t, p, 100+i)
	}
	notTaken(t, p, api.ErrNone)
	told(t, p, state{sent: 64 + many/2})
}
