package pipe_test

import (
	"slices"
	"testing"

	"reedbed/api"
	"reedbed/pipe"
	"reedbed/sample"
)

// P14.3

func TestTakeWithoutOffers(t *testing.T) {
	for _, room := range rooms() {
		for many := 0; many <= room; many++ {
			p, want := full(t, room, many)
			for n := range many {
				take(t, p, n)
				want.items, want.ready = want.items[1:], n+1 < many
				told(t, p, want)
			}
			for range 3 {
				notTaken(t, p, api.ErrNone)
				told(t, p, want)
			}
			if room > 0 {
				send(t, p, 0, 30, true)
				take(t, p, 30)
			}
		}
	}
}

func TestTakeWithOffersBehind(t *testing.T) {
	for _, room := range rooms() {
		for offers := 1; offers <= 5; offers++ {
			many := room + offers
			p, want := full(t, room, many)
			for n := range many {
				take(t, p, n)
				want.items, want.ready = want.items[1:], n+1 < many
				if len(want.waits) > 0 {
					want.waits = want.waits[1:]
				}
				told(t, p, want)
			}
			notTaken(t, p, api.ErrNone)
			told(t, p, want)
		}
	}
}

func TestTheFirstOfferIsInItThen(t *testing.T) {
	for _, room := range []int{1, 2, 3, 64} {
		p := sent(t, room, room+2)
		take(t, p, 0)
		// One offer is in it, the other one still waits: it can be withdrawn, and
		// the first one is the last that is in it.
		withdraw(t, p, room, false)
		withdraw(t, p, room+1, true)
		closeIt(t, p, api.OK)
		take(t, p, sample.Span(room + 1)[1:]...)
		notTaken(t, p, api.ErrClosed)
	}
}

func TestTakeWithoutRoom(t *testing.T) {
	p := made(t, 0)
	for _, who := range []int{3, 1, 2} {
		send(t, p, who, who, false)
	}
	for n, who := range []int{3, 1, 2} {
		take(t, p, who)
		told(t, p, state{items: []int{3, 1, 2}[n+1:], sent: 3, waits: []int{3, 1, 2}[n+1:], ready: n < 2})
		// It waits no more, and may offer again.
		withdraw(t, p, who, false)
	}
	notTaken(t, p, api.ErrNone)
	send(t, p, 3, 5, false)
	send(t, p, 1, 6, false)
	take(t, p, 5)
	// Nobody's item is in it, whoever was taken from.
	send(t, p, 3, 7, false)
	told(t, p, state{items: []int{6, 7}, sent: 6, waits: []int{1, 3}, ready: true})
	take(t, p, 6, 7)
	closeIt(t, p, api.OK)
	notTaken(t, p, api.ErrClosed)
}

func TestTakeOfAClosedOne(t *testing.T) {
	for _, room := range rooms() {
		for many := 0; many <= room; many++ {
			p, want := full(t, room, many)
			closeIt(t, p, api.OK)
			want.closed, want.ready = true, true
			for n := range many {
				told(t, p, want)
				take(t, p, n)
				want.items = want.items[1:]
			}
			for range 3 {
				told(t, p, want)
				notTaken(t, p, api.ErrClosed)
			}
			told(t, p, want)
		}
	}
}

func TestReadyIsWhatTakeWouldAnswer(t *testing.T) {
	for _, room := range rooms() {
		p := made(t, room)
		ready := func(want bool) {
			t.Helper()
			if p.Ready() != want {
				t.Errorf("room %d: Ready %t; want %t", room, !want, want)
			}
		}
		ready(false)
		send(t, p, 1, 1, room > 0)
		ready(true)
		take(t, p, 1)
		ready(false)
		notTaken(t, p, api.ErrNone)
		ready(false)
		for i := range room {
			send(t, p, i, i, true)
		}
		ready(room > 0)
		send(t, p, 70, 70, false)
		ready(true)
		withdraw(t, p, 70, true)
		ready(room > 0)
		closeIt(t, p, api.OK)
		ready(true)
		take(t, p, sample.Span(room)...)
		ready(true)
		notTaken(t, p, api.ErrClosed)
		ready(true)
	}
}

// P14.4

func TestCloseTwice(t *testing.T) {
	for _, room := range rooms() {
		for many := 0; many <= room; many++ {
			p, want := full(t, room, many)
			want.closed, want.ready = true, true
			closeIt(t, p, api.OK)
			told(t, p, want)
			for range 3 {
				closeIt(t, p, api.ErrClosed)
				told(t, p, want)
			}
			take(t, p, want.items...)
			closeIt(t, p, api.ErrClosed)
			told(t, p, state{sent: many, closed: true, ready: true})
		}
	}
}

func TestCloseWithOffers(t *testing.T) {
	for _, room := range rooms() {
		for offers := 1; offers <= 3; offers++ {
			p, want := full(t, room, room+offers)
			for range 3 {
				closeIt(t, p, api.ErrBusy)
				told(t, p, want)
			}
			// It is open: what comes is offered, what is in it taken.
			send(t, p, 80, 80, false)
			take(t, p, 0)
			want.items, want.waits, want.sent = append(want.items[1:], 80), append(want.waits[1:], 80), want.sent+1
			told(t, p, want)
			closeIt(t, p, api.ErrBusy)
		}
	}
}

func TestCloseBehindOffersThatWereWithdrawn(t *testing.T) {
	for _, room := range rooms() {
		p := sent(t, room, room+3)
		for i, k := range []int{1, 0, 2} {
			closeIt(t, p, api.ErrBusy)
			withdraw(t, p, room+k, true)
			if i < 2 {
				closeIt(t, p, api.ErrBusy)
			}
		}
		closeIt(t, p, api.OK)
		told(t, p, state{items: sample.Span(room), sent: room, closed: true, ready: true})
		take(t, p, sample.Span(room)...)
		notTaken(t, p, api.ErrClosed)
	}
}

func TestCloseBehindOffersThatWereTaken(t *testing.T) {
	for _, room := range rooms() {
		p := sent(t, room, room+3)
		for n := range 3 {
			closeIt(t, p, api.ErrBusy)
			take(t, p, n)
		}
		closeIt(t, p, api.OK)
		told(t, p, state{items: sample.Span(room + 3)[3:], sent: room + 3, closed: true, ready: true})
	}
}

// P14.1 to P14.5

// deed is one call that may change a pipe.
type deed struct {
	kind byte // s(end), w(ithdraw), t(ake), c(lose)
	who  int
}

// answer is what a call answers.
type answer struct {
	item api.Item
	done bool
	err  api.Errno
}

func (x answer) same(y answer) bool {
	return sample.SameItem(x.item, y.item) && x.done == y.done && x.err == y.err
}

// act does a deed to a pipe; what is sent is item n.
func act(p *pipe.Pipe, d deed, n int) (x answer) {
	switch d.kind {
	case 's':
		x.done, x.err = p.Send(d.who, sample.Item(n))
	case 'w':
		x.done = p.Withdraw(d.who)
	case 't':
		x.item, x.err = p.Take()
	default:
		x.err = p.Close()
	}
	return x
}

// plain is a pipe by the document's words: one line of all that was sent, of
// which each is offered or not.
type plain struct {
	room   int
	line   []entry
	sent   int
	closed bool
	next   int // the number of the item that is sent next
	taken  []int
}

type entry struct {
	who, n  int
	offered bool
}

// offer is where a sender's offer stands in the line; below 0: it has none.
func (m *plain) offer(who int) int {
	for i, e := range m.line {
		if e.offered && e.who == who {
			return i
		}
	}
	return -1
}

// in is how many are in it.
func (m *plain) in() int {
	n := 0
	for _, e := range m.line {
		if !e.offered {
			n++
		}
	}
	return n
}

func (m *plain) act(d deed) answer {
	switch d.kind {
	case 's':
		return m.send(d.who)
	case 'w':
		at := m.offer(d.who)
		if at >= 0 {
			m.line = slices.Delete(m.line, at, at+1)
			m.sent--
		}
		return answer{done: at >= 0}
	case 't':
		return m.take()
	}
	switch {
	case m.closed:
		return answer{err: api.ErrClosed}
	case m.in() < len(m.line):
		return answer{err: api.ErrBusy}
	}
	m.closed = true
	return answer{}
}

func (m *plain) send(who int) answer {
	n := m.next
	m.next++
	switch {
	case m.closed:
		return answer{err: api.ErrClosed}
	case m.offer(who) >= 0:
		return answer{err: api.ErrBusy}
	}
	fits := m.in() < m.room
	m.line = append(m.line, entry{who, n, !fits})
	m.sent++
	return answer{done: fits}
}

func (m *plain) take() answer {
	if len(m.line) == 0 {
		if m.closed {
			return answer{err: api.ErrClosed}
		}
		return answer{err: api.ErrNone}
	}
	first := m.line[0]
	m.line = slices.Delete(m.line, 0, 1)
	// The line has those that are in it ahead of those that are offered.
	if at := m.in(); at < m.room && at < len(m.line) {
		m.line[at].offered = false
	}
	m.taken = append(m.taken, first.n)
	return answer{item: sample.Item(first.n)}
}

// state is what such a pipe has to tell.
func (m *plain) state() state {
	s := state{sent: m.sent, closed: m.closed, ready: m.closed || len(m.line) > 0}
	for _, e := range m.line {
		s.items = append(s.items, e.n)
		if e.offered {
			s.waits = append(s.waits, e.who)
		}
	}
	return s
}

// follow does deeds to a pipe and to its plain reading, and holds what each
// answers, and what is told behind it, against each other.
func follow(t *testing.T, p *pipe.Pipe, m *plain, deeds ...deed) {
	t.Helper()
	for k, d := range deeds {
		n := m.next
		if want, got := m.act(d), act(p, d, n); !got.same(want) {
			t.Fatalf("room %d, deed %d of %c: %v; want %v", m.room, k, deeds, got, want)
		}
	}
	sameState(t, p, m)
}

// sameState holds all that a pipe tells against the plain reading.
func sameState(t *testing.T, p *pipe.Pipe, m *plain) {
	t.Helper()
	want := m.state()
	if p.Sent() != want.sent || p.Closed() != want.closed || p.Ready() != want.ready {
		t.Fatalf("Sent %d, Closed %t, Ready %t; want %d, %t, %t", p.Sent(), p.Closed(), p.Ready(), want.sent, want.closed, want.ready)
	}
	if all := p.Items(); !sample.SameItems(all, sample.Items(want.items...)) {
		t.Fatalf("Items %d; want %d", sample.Numbers(all), want.items)
	}
	for who := -2; who < 12; who++ {
		if p.Waits(who) != slices.Contains(want.waits, who) {
			t.Fatalf("Waits(%d) %t; want those of %d", who, p.Waits(who), want.waits)
		}
	}
	// There are offers only if as many items are in it as there is room.
	if many := len(want.items); len(want.waits) != max(0, many-m.room) {
		t.Fatalf("%d items, room %d, and %d wait", many, m.room, len(want.waits))
	}
}

func TestAllShortWays(t *testing.T) {
	deeds := []deed{{'s', 0}, {'s', 1}, {'s', 2}, {'w', 0}, {'w', 1}, {'w', 2}, {'t', 0}, {'c', 0}}
	for _, c := range []struct{ room, first, most int }{
		{0, 0, 5}, {1, 0, 5}, {1, 2, 4}, {2, 0, 5}, {2, 3, 4}, {3, 3, 4}, {3, 4, 4}, {3, 5, 4},
	} {
		sample.Each(sample.Span(len(deeds)), c.most, func(picks []int) {
			p, m := made(t, c.room), &plain{room: c.room}
			var way []deed
			for i := range c.first {
				way = append(way, deed{'s', i % 3})
			}
			for _, k := range picks {
				way = append(way, deeds[k])
			}
			// What it tells behind the beginnings of the way was seen at these.
			follow(t, p, m, way...)
		})
	}
}

func TestLongWays(t *testing.T) {
	for _, room := range rooms() {
		for _, kinds := range []string{"sswt", "ssssswttt", "sssssssssstc", "sttw", "sssttt", "sssssw"} {
			next := sample.Row(room*100 + len(kinds))
			p, m := made(t, room), &plain{room: room}
			for range 3000 {
				follow(t, p, m, deed{kinds[next(len(kinds))], next(12) - 1})
			}
			inOrder(t, p, m)
		}
	}
}

// inOrder takes all that is left, and holds what was taken against what was
// sent: in that order, each once, none that was withdrawn or refused.
func inOrder(t *testing.T, p *pipe.Pipe, m *plain) {
	t.Helper()
	for p.Ready() && len(m.line) > 0 {
		follow(t, p, m, deed{kind: 't'})
	}
	if len(m.taken) != m.sent || len(m.taken) != p.Sent() {
		t.Fatalf("%d were taken of %d; Sent %d", len(m.taken), m.sent, p.Sent())
	}
	for i := 1; i < len(m.taken); i++ {
		if m.taken[i-1] >= m.taken[i] {
			t.Fatalf("taken were %d, then %d", m.taken[i-1], m.taken[i])
		}
	}
}

func TestRefusedCallsChangeNothing(t *testing.T) {
	for _, room := range rooms() {
		p, want := full(t, room, room+2)
		for range 3 {
			notSent(t, p, room, api.ErrBusy)
			notSent(t, p, room+1, api.ErrBusy)
			closeIt(t, p, api.ErrBusy)
			withdraw(t, p, room-1, false)
			told(t, p, want)
		}
		take(t, p, sample.Span(room+2)...)
		for range 3 {
			notTaken(t, p, api.ErrNone)
			told(t, p, state{sent: room + 2})
		}
		closeIt(t, p, api.OK)
		for range 3 {
			notTaken(t, p, api.ErrClosed)
			notSent(t, p, room, api.ErrClosed)
			closeIt(t, p, api.ErrClosed)
			told(t, p, state{sent: room + 2, closed: true, ready: true})
		}
	}
}
