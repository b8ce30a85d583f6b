package ring_test

import (
	"math"
	"slices"
	"testing"

	"reedbed/api"
	"reedbed/ring"
	"reedbed/sample"
)

// plain is a ring by the document's words: all that it took, in the order in
// which that came, and how many of these it gave.
type plain struct {
	places int
	took   []api.Item
	given  int
	puts   int // how many were handed in, taken or not
}

// find is a ticket's item; false: it never came.
func (m *plain) find(ticket int) (api.Item, bool) {
	at := slices.IndexFunc(m.took, func(x api.Item) bool { return x.N == ticket })
	if at < 0 {
		return api.Item{}, false
	}
	return m.took[at], true
}

// judge is what Put has to answer for a ticket.
func (m *plain) judge(ticket int) api.Errno {
	if _, came := m.find(ticket); came || ticket < m.given {
		return api.ErrArg
	}
	if ticket >= m.given+m.places {
		return api.ErrBig
	}
	return api.OK
}

func (m *plain) put(x api.Item) api.Errno {
	err := m.judge(x.N)
	if err == api.OK {
		m.took = append(m.took, x)
	}
	return err
}

func (m *plain) next() (api.Item, bool) {
	x, came := m.find(m.given)
	if came {
		m.given++
	}
	return x, came
}

func (m *plain) held() []api.Item {
	var all []api.Item
	for i := range m.places {
		if x, came := m.find(m.given + i); came {
			all = append(all, x)
		}
	}
	return all
}

// tickets are numbers about the places, at those that are so many places on or
// back, and far off.
func (m *plain) tickets() []int {
	near := []int{64, 65, 1 << 32, math.MinInt, math.MinInt + 1, math.MaxInt - 1, math.MaxInt}
	for _, base := range []int{m.given, 0, -m.given, m.given + 1<<32, m.given - 1<<32, math.MinInt + m.given, math.MaxInt - m.given} {
		near = append(near, base, base-1, base+1, base-m.places, base+m.places, base+m.places-1, base+2*m.places)
	}
	return append(near, sample.Strays()...)
}

// told holds all that a ring tells against the plain reading, twice, as asking
// changes nothing.
func told(t *testing.T, r *ring.Ring, m *plain) {
	t.Helper()
	_, ready := m.find(m.given)
	held, tickets := m.held(), m.tickets()
	for i := range m.places + 4 {
		tickets = append(tickets, m.given-2+i)
	}
	for range 2 {
		if r.Ticket() != m.given || r.Ready() != ready {
			t.Fatalf("%d places: Ticket %d, Ready %t; want %d, %t", m.places, r.Ticket(), r.Ready(), m.given, ready)
		}
		if all := r.Held(); !sample.SameItems(all, held) {
			t.Fatalf("%d places, next %d: Held %v; want %v", m.places, m.given, all, held)
		}
		for _, ticket := range tickets {
			if want := m.judge(ticket) == api.OK; r.Room(ticket) != want {
				t.Fatalf("%d places, next %d: Room(%d) %t with %d; want %t", m.places, m.given, ticket, !want, sample.Numbers(held), want)
			}
		}
	}
}

// deed is one call that may change a ring.
type deed struct {
	kind   byte // p(ut), n(ext)
	ticket int
}

// thing is an item with a ticket whose other fields tell another number.
func thing(ticket, n int) api.Item {
	x := sample.Item(n)
	x.N = ticket
	return x
}

// do does deeds to a ring and to its plain reading, and holds what each answers
// against each other. No two of the items that are put are the same, so that
// one that is refused is told from the one that is there.
func do(t *testing.T, r *ring.Ring, m *plain, deeds ...deed) {
	t.Helper()
	for k, d := range deeds {
		if d.kind == 'n' {
			want, wants := m.next()
			if x, ok := r.Next(); !sample.SameItem(x, want) || ok != wants {
				t.Fatalf("%d places, deed %d of %c: Next = %v, %t; want %v, %t", m.places, k, deeds, x, ok, want, wants)
			}
			continue
		}
		x := thing(d.ticket, m.puts)
		m.puts++
		want := m.put(x)
		if err := r.Put(x); err != want {
			t.Fatalf("%d places, deed %d of %c: Put of %d = %v; want %v", m.places, k, deeds, d.ticket, err, want)
		}
	}
}

// follow does deeds like do, and holds behind each one what is told.
func follow(t *testing.T, r *ring.Ring, m *plain, deeds ...deed) {
	t.Helper()
	for _, d := range deeds {
		do(t, r, m, d)
		told(t, r, m)
	}
}

// puts are those of these tickets; nexts are so many.
func puts(tickets ...int) []deed {
	var all []deed
	for _, n := range tickets {
		all = append(all, deed{'p', n})
	}
	return all
}

func nexts(many int) []deed {
	return slices.Repeat([]deed{{kind: 'n'}}, many)
}

// made is a ring that New has to answer, and its plain reading.
func made(t *testing.T, places int) (*ring.Ring, *plain) {
	t.Helper()
	r, err := ring.New(places)
	if r == nil || err != api.OK {
		t.Fatalf("New(%d) = %v, %v", places, r, err)
	}
	return r, &plain{places: places}
}

// gone is a ring that gave so many, one by one, and is empty again.
func gone(t *testing.T, places, given int) (*ring.Ring, *plain) {
	t.Helper()
	r, m := made(t, places)
	for n := range given {
		do(t, r, m, deed{'p', n}, deed{kind: 'n'})
	}
	if r.Ticket() != given || r.Ready() || len(r.Held()) != 0 {
		t.Fatalf("%d places: Ticket %d, Ready %t, Held %v behind %d", places, r.Ticket(), r.Ready(), r.Held(), given)
	}
	return r, m
}

// put puts an item of that ticket, which a ring has to take or refuse.
func put(t *testing.T, r *ring.Ring, ticket int, want api.Errno) {
	t.Helper()
	if err := r.Put(sample.Item(ticket)); err != want {
		t.Fatalf("Put of %d = %v; want %v", ticket, err, want)
	}
}

// ringOf is a ring of so many places into which those of these tickets were
// put.
func ringOf(t *testing.T, places int, tickets ...int) *ring.Ring {
	t.Helper()
	r, _ := made(t, places)
	for _, n := range tickets {
		put(t, r, n, api.OK)
	}
	return r
}

// given takes what is next, which has to be those that put put.
func given(t *testing.T, r *ring.Ring, tickets ...int) {
	t.Helper()
	for _, n := range tickets {
		if x, ok := r.Next(); !sample.SameItem(x, sample.Item(n)) || !ok || r.Ticket() != n+1 {
			t.Fatalf("Next = %v, %t, and Ticket %d; want %d", x, ok, r.Ticket(), n)
		}
	}
}

// notGiven takes what is next, which isn't there.
func notGiven(t *testing.T, r *ring.Ring) {
	t.Helper()
	ticket := r.Ticket()
	if x, ok := r.Next(); !sample.SameItem(x, api.Item{}) || x.Hits != nil || ok || r.Ticket() != ticket {
		t.Fatalf("Next = %v, %t, and Ticket %d behind %d; want none", x, ok, r.Ticket(), ticket)
	}
}

// sizes are some numbers of places that a ring may have.
func sizes() []int {
	return []int{1, 2, 3, 5, 7, 16, 63, 64}
}

// P17.1

func TestNewAtItsEnds(t *testing.T) {
	for _, n := range slices.Concat(sample.Strays(), sample.Sizes(), sample.Span(70), []int{255, 256, 1<<32 + 64, -1<<32 + 1, math.MinInt + 1}) {
		if n >= 1 && n <= 64 {
			r, m := made(t, n)
			told(t, r, m)
			continue
		}
		if r, err := ring.New(n); r != nil || err != api.ErrArg {
			t.Errorf("New(%d) = %v, %v; want nil, ErrArg", n, r, err)
		}
	}
}

func TestAnEmptyRing(t *testing.T) {
	for places := 1; places <= 64; places++ {
		for _, ticket := range []int{0, 1, places - 1, places, 3*places + 1} {
			r, m := gone(t, places, ticket)
			for range 3 {
				notGiven(t, r)
				told(t, r, m)
			}
			for n := ticket - 2*places - 1; n <= ticket+2*places+1; n++ {
				if want := ticket <= n && n <= ticket+places-1; r.Room(n) != want {
					t.Fatalf("%d places, next %d: Room(%d) %t", places, ticket, n, !want)
				}
			}
		}
	}
}

func TestRoomAtItsEdges(t *testing.T) {
	for _, places := range sizes() {
		for _, ticket := range []int{0, 1, places, 100} {
			r, _ := gone(t, places, ticket)
			room := func(n int, want bool) {
				t.Helper()
				if r.Room(n) != want {
					t.Errorf("%d places, next %d: Room(%d) %t; want %t", places, ticket, n, !want, want)
				}
			}
			for _, n := range []int{ticket - 1, ticket + places, -1, math.MinInt, math.MaxInt} {
				room(n, false)
			}
			room(ticket, true)
			last := ticket + places - 1
			room(last, true)
			put(t, r, last, api.OK)
			room(last, false)
			room(ticket, places > 1)
			if places > 1 {
				put(t, r, ticket, api.OK)
				room(ticket, false)
			}
			// What was given has no room any more, what is behind the last place has.
			given(t, r, ticket)
			room(ticket, false)
			room(ticket+places, true)
			room(ticket+places+1, false)
		}
	}
}

func TestRoomIsWhatPutTakes(t *testing.T) {
	for _, places := range sizes() {
		next := sample.Row(places)
		r, _ := made(t, places)
		for range 2000 {
			ticket := r.Ticket() - 2 + next(min(places, 5)+4)
			room := r.Room(ticket)
			if err := r.Put(thing(ticket, 0)); room != (err == api.OK) {
				t.Fatalf("%d places, next %d: Room(%d) %t, but Put %v", places, r.Ticket(), ticket, room, err)
			}
			if next(2) == 0 {
				r.Next()
			}
		}
		if r.Ticket() < 100 {
			t.Errorf("%d places: %d were given", places, r.Ticket())
		}
	}
}

func TestHeldRises(t *testing.T) {
	for _, places := range sizes() {
		for start := range 5 {
			r, _ := gone(t, places, start*places/2)
			next := sample.Row(places + start)
			var tickets []int
			for range places {
				ticket := r.Ticket() + next(places)
				if r.Room(ticket) {
					put(t, r, ticket, api.OK)
					tickets = append(tickets, ticket)
					slices.Sort(tickets)
				}
				if all := r.Held(); !sample.SameItems(all, sample.Items(tickets...)) {
					t.Fatalf("%d places: Held %v; want %d", places, all, tickets)
				}
			}
		}
	}
}
