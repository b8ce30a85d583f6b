package pipe_test

import (
	"math"
	"slices"
	"testing"

	"reedbed/api"
	"reedbed/pipe"
	"reedbed/sample"
)

// state is what a pipe tells: its items by their numbers, how many were sent,
// which senders wait, rising.
type state struct {
	items         []int
	sent          int
	waits         []int
	closed, ready bool
}

// senders are numbers of any.
func senders() []int {
	return slices.Concat(sample.Span(70), sample.Strays(), []int{-2, 100, 1<<32 + 1, -1<<32 + 1})
}

// told holds a pipe against a state, twice, as asking changes nothing.
func told(t *testing.T, p *pipe.Pipe, want state) {
	t.Helper()
	for range 2 {
		if all := p.Items(); !sample.SameItems(all, sample.Items(want.items...)) {
			t.Fatalf("Items %v; want %d", all, want.items)
		}
		if p.Sent() != want.sent || p.Closed() != want.closed || p.Ready() != want.ready {
			t.Fatalf("Sent %d, Closed %t, Ready %t; want %d, %t, %t", p.Sent(), p.Closed(), p.Ready(), want.sent, want.closed, want.ready)
		}
		for _, who := range senders() {
			if p.Waits(who) != slices.Contains(want.waits, who) {
				t.Fatalf("Waits(%d) %t; want those of %d", who, p.Waits(who), want.waits)
			}
		}
	}
}

// made is a pipe that New has to answer.
func made(t *testing.T, room int) *pipe.Pipe {
	t.Helper()
	p, err := pipe.New(room)
	if p == nil || err != api.OK {
		t.Fatalf("New(%d) = %v, %v", room, p, err)
	}
	return p
}

// sent is a pipe into which item i was sent by sender i, for each of so many.
func sent(t *testing.T, room, many int) *pipe.Pipe {
	t.Helper()
	p := made(t, room)
	for i := range many {
		send(t, p, i, i, i < room)
	}
	return p
}

// full is a pipe like sent's, and what it tells.
func full(t *testing.T, room, many int) (*pipe.Pipe, state) {
	t.Helper()
	p, want := sent(t, room, many), state{items: sample.Span(many), sent: many, ready: many > 0}
	if many > room {
		want.waits = sample.Span(many)[room:]
	}
	told(t, p, want)
	return p, want
}

// send sends an item, which a pipe has to take.
func send(t *testing.T, p *pipe.Pipe, who, n int, want bool) {
	t.Helper()
	if done, err := p.Send(who, sample.Item(n)); done != want || err != api.OK {
		t.Fatalf("Send(%d, %d) = %t, %v; want %t", who, n, done, err, want)
	}
}

// notSent sends an item, which a pipe has to refuse.
func notSent(t *testing.T, p *pipe.Pipe, who int, want api.Errno) {
	t.Helper()
	if done, err := p.Send(who, sample.Item(99)); done || err != want {
		t.Fatalf("Send(%d, 99) = %t, %v; want false, %v", who, done, err, want)
	}
}

// take takes those items, one by one.
func take(t *testing.T, p *pipe.Pipe, ns ...int) {
	t.Helper()
	for _, n := range ns {
		if x, err := p.Take(); !sample.SameItem(x, sample.Item(n)) || err != api.OK {
			t.Fatalf("Take = %v, %v; want %d", x, err, n)
		}
	}
}

// notTaken takes none.
func notTaken(t *testing.T, p *pipe.Pipe, want api.Errno) {
	t.Helper()
	if x, err := p.Take(); !sample.SameItem(x, api.Item{}) || err != want {
		t.Fatalf("Take = %v, %v; want none, %v", x, err, want)
	}
}

// withdraw takes a sender's offer back.
func withdraw(t *testing.T, p *pipe.Pipe, who int, want bool) {
	t.Helper()
	if p.Withdraw(who) != want {
		t.Fatalf("Withdraw(%d) = %t; want %t", who, !want, want)
	}
}

// closeIt closes a pipe, or not.
func closeIt(t *testing.T, p *pipe.Pipe, want api.Errno) {
	t.Helper()
	if err := p.Close(); err != want {
		t.Fatalf("Close = %v; want %v", err, want)
	}
}

// rooms are some that a pipe may have.
func rooms() []int {
	return []int{0, 1, 2, 3, 7, 63, 64}
}

// P14.1

func TestNewAtItsEnds(t *testing.T) {
	for _, room := range slices.Concat(sample.Strays(), sample.Sizes(), sample.Span(70), []int{255, 256, 1<<32 + 64, -1<<32 + 1}) {
		if room < 0 || room > 64 {
			if p, err := pipe.New(room); p != nil || err != api.ErrArg {
				t.Errorf("New(%d) = %v, %v; want nil, ErrArg", room, p, err)
			}
			continue
		}
		told(t, made(t, room), state{})
	}
}

func TestANewPipe(t *testing.T) {
	for _, room := range rooms() {
		p := made(t, room)
		for _, who := range senders() {
			withdraw(t, p, who, false)
		}
		notTaken(t, p, api.ErrNone)
		told(t, p, state{})
		closeIt(t, p, api.OK)
		told(t, p, state{closed: true, ready: true})
	}
}

func TestItemsAndOffersInTheirLines(t *testing.T) {
	for _, room := range rooms() {
		for many := range 70 {
			full(t, room, many)
		}
	}
}

func TestRoomIsJustTheRoom(t *testing.T) {
	for room := range 65 {
		p := sent(t, room, room)
		send(t, p, room, room, false)
		told(t, p, state{items: sample.Span(room + 1), sent: room + 1, waits: []int{room}, ready: true})
		take(t, p, 0)
		// Two more: at a room above 0 the offer is in it, and it is full again.
		send(t, p, 65, 65, false)
		send(t, p, 66, 66, false)
		take(t, p, append(sample.Span(room + 1)[1:], 65, 66)...)
		notTaken(t, p, api.ErrNone)
	}
}

// P14.2

func TestSendOfTheExample(t *testing.T) {
	p := made(t, 1)
	send(t, p, 1, 10, true)
	told(t, p, state{items: []int{10}, sent: 1, ready: true})
	send(t, p, 2, 20, false)
	told(t, p, state{items: []int{10, 20}, sent: 2, waits: []int{2}, ready: true})
	take(t, p, 10)
	told(t, p, state{items: []int{20}, sent: 2, ready: true})
	take(t, p, 20)
	told(t, p, state{sent: 2})
}

func TestSendWithRoomForOneMore(t *testing.T) {
	for room := 1; room <= 64; room++ {
		p := sent(t, room, room-1)
		send(t, p, 80, 80, true)
		send(t, p, 81, 81, false)
		told(t, p, state{items: append(sample.Span(room-1), 80, 81), sent: room + 1, waits: []int{81}, ready: true})
	}
}

func TestSendByOneThatWaits(t *testing.T) {
	for _, room := range rooms() {
		p, want := full(t, room, room+3)
		for range 3 {
			for i := range 3 {
				notSent(t, p, room+i, api.ErrBusy)
				told(t, p, want)
			}
		}
		// Another one may.
		send(t, p, -1, -1, false)
		take(t, p, append(sample.Span(room+3), -1)...)
	}
}

func TestSendByOneWhoseItemIsInThePipe(t *testing.T) {
	for _, room := range []int{1, 2, 3, 64} {
		p := made(t, room)
		for i := range room {
			send(t, p, 5, i, true)
			told(t, p, state{items: sample.Span(i + 1), sent: i + 1, ready: true})
		}
		send(t, p, 5, room, false)
		want := state{items: sample.Span(room + 1), sent: room + 1, waits: []int{5}, ready: true}
		told(t, p, want)
		notSent(t, p, 5, api.ErrBusy)
		told(t, p, want)
		take(t, p, 0)
		told(t, p, state{items: sample.Span(room + 1)[1:], sent: room + 1, ready: true})
		// What was offered is in it: the sender may offer again.
		send(t, p, 5, room+1, false)
		told(t, p, state{items: sample.Span(room + 2)[1:], sent: room + 2, waits: []int{5}, ready: true})
	}
}

func TestSendersOfAnyNumber(t *testing.T) {
	all := senders()
	slices.Sort(all)
	all = slices.Compact(all)
	for _, room := range []int{0, 1, 64} {
		p := made(t, room)
		for i := range room {
			send(t, p, all[i], i, true)
		}
		waits := []int{}
		for i, who := range all {
			send(t, p, who, room+i, false)
			notSent(t, p, who, api.ErrBusy)
			waits = append(waits, who)
			told(t, p, state{items: sample.Span(room + i + 1), sent: room + i + 1, waits: waits, ready: true})
		}
		for i, who := range all {
			if who < 0 {
				withdraw(t, p, who, true)
				waits = slices.Delete(waits, 0, 1)
				told(t, p, state{items: append(sample.Span(room), sample.Span(room + len(all))[room+i+1:]...), sent: room + len(all) - i - 1, waits: waits, ready: true})
			}
		}
	}
}

func TestSendIntoAClosedOne(t *testing.T) {
	for _, room := range rooms() {
		for many := 0; many <= room; many++ {
			p, want := full(t, room, many)
			closeIt(t, p, api.OK)
			want.closed, want.ready = true, true
			for _, who := range []int{0, many - 1, many, 64, -1, math.MinInt, math.MaxInt} {
				notSent(t, p, who, api.ErrClosed)
				withdraw(t, p, who, false)
			}
			told(t, p, want)
		}
	}
}

func TestSendIntoAClosedOneByOneThatHadAnOffer(t *testing.T) {
	for _, room := range rooms() {
		p := sent(t, room, room+2)
		withdraw(t, p, room+1, true)
		take(t, p, 0)
		closeIt(t, p, api.OK)
		for _, who := range []int{room, room + 1} {
			notSent(t, p, who, api.ErrClosed)
		}
		told(t, p, state{items: sample.Span(room + 1)[1:], sent: room + 1, closed: true, ready: true})
	}
}

func TestWithdrawOfEachOffer(t *testing.T) {
	for _, room := range rooms() {
		for offers := 1; offers <= 4; offers++ {
			for k := range offers {
				p, want := full(t, room, room+offers)
				withdraw(t, p, room+k, true)
				want.items = slices.Delete(want.items, room+k, room+k+1)
				want.waits = slices.Delete(want.waits, k, k+1)
				want.sent, want.ready = want.sent-1, len(want.items) > 0
				told(t, p, want)
				withdraw(t, p, room+k, false)
				told(t, p, want)
				// It may offer again, behind all others.
				send(t, p, room+k, 90, false)
				take(t, p, append(want.items, 90)...)
				notTaken(t, p, api.ErrNone)
				told(t, p, state{sent: room + offers})
			}
		}
	}
}

func TestWithdrawOfAllOffers(t *testing.T) {
	const offers = 4
	sample.Each(sample.Span(offers), offers+1, func(order []int) {
		for _, room := range []int{0, 1, 3} {
			p, m := made(t, room), &plain{room: room}
			for i := range room + offers {
				follow(t, p, m, deed{'s', i})
			}
			// Those that come again have none any more.
			for _, k := range order {
				follow(t, p, m, deed{'w', room + k})
			}
			follow(t, p, m, deed{'c', 0}, deed{'s', room}, deed{'t', 0}, deed{'t', 0})
		}
	})
}

func TestWithdrawOfOneWithoutAnOffer(t *testing.T) {
	for _, room := range rooms() {
		for many := range room + 3 {
			p, want := full(t, room, many)
			for _, who := range senders() {
				// Those whose items are in it, too.
				if who < room || who >= many {
					withdraw(t, p, who, false)
				}
			}
			told(t, p, want)
		}
	}
}

func TestWithdrawBehindTake(t *testing.T) {
	for _, room := range rooms() {
		p := sent(t, room, room+3)
		take(t, p, 0)
		// Its offer is in the pipe now, or taken.
		withdraw(t, p, room, false)
		told(t, p, state{items: sample.Span(room + 3)[1:], sent: room + 3, waits: []int{room + 1, room + 2}, ready: true})
		withdraw(t, p, room+1, true)
		told(t, p, state{items: append(sample.Span(room + 1)[1:], room+2), sent: room + 2, waits: []int{room + 2}, ready: true})
	}
}

func TestSendBehindWithdraw(t *testing.T) {
	for _, room := range rooms() {
		p := sent(t, room, room+1)
		for n := range 200 {
			withdraw(t, p, room, true)
			// The room isn't greater for that.
			send(t, p, room, 100+n, false)
			told(t, p, state{items: append(sample.Span(room), 100+n), sent: room + 1, waits: []int{room}, ready: true})
		}
	}
}
