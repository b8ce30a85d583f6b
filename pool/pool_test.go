package pool_test

import (
	"math"
	"slices"
	"strconv"
	"strings"
	"testing"

	"reedbed/api"
	"reedbed/pool"
	"reedbed/sample"
)

// deed is one call that may change a pool.
type deed struct {
	kind byte // t(ake), f(ill), h(old), d(rop)
	i    int
	b    string
}

func (d deed) String() string {
	return string(d.kind) + strconv.Itoa(d.i) + d.b
}

// act does a deed to a pool.
func act(p *pool.Pool, d deed) (int, api.Errno) {
	switch d.kind {
	case 't':
		return p.Take()
	case 'f':
		return 0, p.Fill(d.i, []byte(d.b))
	case 'h':
		return 0, p.Hold(d.i)
	}
	return 0, p.Drop(d.i)
}

// plain is a pool by the document's words: the line of the free ones, how
// often each held one is held, and what octets it has.
type plain struct {
	n, size int
	line    []int
	holds   map[int]int
	octets  map[int]string
}

func reading(n, size int) *plain {
	return &plain{n: n, size: size, line: sample.Span(n), holds: map[int]int{}, octets: map[int]string{}}
}

func (m *plain) act(d deed) (int, api.Errno) {
	if d.kind == 't' {
		return m.take()
	}
	times, held := m.holds[d.i]
	switch {
	case !held:
		return 0, api.ErrArg
	case d.kind == 'h':
		m.holds[d.i] = times + 1
	case d.kind == 'f' && times > 1:
		return 0, api.ErrBusy
	case d.kind == 'f' && len(d.b) > m.size:
		return 0, api.ErrBig
	case d.kind == 'f':
		m.octets[d.i] = d.b
	case times > 1:
		m.holds[d.i] = times - 1
	default:
		delete(m.holds, d.i)
		delete(m.octets, d.i)
		m.line = append(m.line, d.i)
	}
	return 0, api.OK
}

func (m *plain) take() (int, api.Errno) {
	if len(m.line) == 0 {
		return 0, api.ErrNone
	}
	i := m.line[0]
	m.line = slices.Clone(m.line[1:])
	m.holds[i] = 1
	return i, api.OK
}

// sameState holds all that a pool tells against the plain reading.
func sameState(t *testing.T, p *pool.Pool, m *plain) {
	t.Helper()
	bytes := 0
	for i := -1; i <= m.n; i++ {
		if p.Holds(i) != m.holds[i] || p.Octets(i) != m.octets[i] {
			t.Fatalf("buffer %d: Holds %d, Octets %q; want %d, %q", i, p.Holds(i), p.Octets(i), m.holds[i], m.octets[i])
		}
		bytes += len(m.octets[i])
	}
	if p.Bytes() != bytes {
		t.Fatalf("Bytes %d; want %d", p.Bytes(), bytes)
	}
	if free := p.Free(); !slices.Equal(free, m.line) {
		t.Fatalf("Free %d; want %d", free, m.line)
	}
}

// freeOrHeld: each buffer stands in the line, once, or is held.
func freeOrHeld(t *testing.T, p *pool.Pool, n int) {
	t.Helper()
	times := map[int]int{}
	for _, i := range p.Free() {
		times[i]++
	}
	for i := range n {
		if free := p.Holds(i) == 0; free && times[i] != 1 || !free && times[i] != 0 {
			t.Fatalf("buffer %d is held %d times, and stands %d times in the line", i, p.Holds(i), times[i])
		}
		delete(times, i)
	}
	if len(times) > 0 {
		t.Fatalf("in the line stand others than the %d buffers: %v", n, times)
	}
}

// sameViews holds each View of a small pool against the plain reading.
func sameViews(t *testing.T, p *pool.Pool, m *plain) {
	t.Helper()
	for i := -1; i <= m.n; i++ {
		for from := -1; from <= m.size+1; from++ {
			for to := -1; to <= m.size+1; to++ {
				sameView(t, p, m, i, from, to)
			}
		}
	}
}

func sameView(t *testing.T, p *pool.Pool, m *plain, i, from, to int) {
	want, err := "", api.ErrArg
	if _, held := m.holds[i]; held && 0 <= from && from <= to && to <= len(m.octets[i]) {
		want, err = m.octets[i][from:to], api.OK
	}
	if s, e := p.View(i, from, to); s != want || e != err {
		t.Fatalf("View(%d, %d, %d) = %q, %v; want %q, %v", i, from, to, s, e, want, err)
	}
}

// follow does deeds to a pool and to its plain reading, and holds what each
// answers against each other.
func follow(t *testing.T, p *pool.Pool, m *plain, deeds ...deed) {
	t.Helper()
	for k, d := range deeds {
		i, err := act(p, d)
		if want, wrong := m.act(d); i != want || err != wrong {
			t.Fatalf("deed %d of %s: %d, %v; want %d, %v", k, deeds, i, err, want, wrong)
		}
	}
}

// made is a pool that New has to answer.
func made(t *testing.T, n, size int) *pool.Pool {
	t.Helper()
	p, err := pool.New(n, size)
	if p == nil || err != api.OK {
		t.Fatalf("New(%d, %d) = %v, %v", n, size, p, err)
	}
	return p
}

// taken is a pool whose first buffers are taken.
func taken(t *testing.T, n, size, first int) *pool.Pool {
	t.Helper()
	p := made(t, n, size)
	for want := range first {
		if i, err := p.Take(); i != want || err != api.OK {
			t.Fatalf("Take %d = %d, %v", want, i, err)
		}
	}
	return p
}

// filled is a pool of one buffer of at most 8 octets, which is taken and has
// these.
func filled(t *testing.T, b string) *pool.Pool {
	t.Helper()
	p := taken(t, 1, 8, 1)
	expect(t, "Fill", p.Fill(0, []byte(b)), api.OK)
	return p
}

func expect(t *testing.T, what string, err, want api.Errno) {
	t.Helper()
	if err != want {
		t.Fatalf("%s: %v; want %v", what, err, want)
	}
}

// noBuffers are numbers of no buffer of a pool of n.
func noBuffers(n int) []int {
	return slices.Concat(sample.Strays(), []int{
		-n, -n - 1, -64, n, n + 1, n + 64, 2 * n,
		1 << 32, 1<<32 + n - 1, -1 << 32, math.MinInt + 1, math.MaxInt - 1,
	})
}

// P6.1

func TestNewAtItsEnds(t *testing.T) {
	numbers := slices.Concat(sample.Strays(), sample.Sizes(), []int{63, 64, 65, 1<<32 + 1, -1<<32 + 1})
	for _, n := range numbers {
		for _, size := range numbers {
			p, err := pool.New(n, size)
			if n < 1 || n > 64 || size < 1 || size > 4096 {
				if p != nil || err != api.ErrArg {
					t.Errorf("New(%d, %d) = %v, %v; want nil, ErrArg", n, size, p, err)
				}
				continue
			}
			if p == nil || err != api.OK {
				t.Fatalf("New(%d, %d) = %v, %v", n, size, p, err)
			}
			sameState(t, p, reading(n, size))
			freeOrHeld(t, p, n)
		}
	}
}

func TestFreeAtFirstByTheirNumbers(t *testing.T) {
	for n := 1; n <= api.MaxPool; n++ {
		p := made(t, n, 1)
		free := p.Free()
		if len(free) != n || p.Bytes() != 0 {
			t.Fatalf("a new pool of %d: Free %d, Bytes %d", n, free, p.Bytes())
		}
		for i, f := range free {
			if f != i || p.Holds(i) != 0 || p.Octets(i) != "" {
				t.Fatalf("a new pool of %d: Free %d, Holds(%d) %d, Octets %q", n, free, i, p.Holds(i), p.Octets(i))
			}
		}
	}
}

func TestBytesOfAllHeld(t *testing.T) {
	p := taken(t, 3, 4096, 2)
	expect(t, "Fill", p.Fill(0, sample.Octets(4096)), api.OK)
	expect(t, "Fill", p.Fill(1, sample.Octets(7)), api.OK)
	if p.Bytes() != 4103 {
		t.Errorf("Bytes %d; want 4103", p.Bytes())
	}
	// How often it is held doesn't count.
	expect(t, "Hold", p.Hold(0), api.OK)
	if p.Bytes() != 4103 {
		t.Errorf("Bytes %d of one that is held twice; want 4103", p.Bytes())
	}
	expect(t, "Fill", p.Fill(1, sample.Octets(2)), api.OK)
	if p.Bytes() != 4098 {
		t.Errorf("Bytes %d behind a shorter Fill; want 4098", p.Bytes())
	}
	expect(t, "Drop", p.Drop(0), api.OK)
	if p.Bytes() != 4098 {
		t.Errorf("Bytes %d of one that is still held; want 4098", p.Bytes())
	}
	expect(t, "Drop", p.Drop(0), api.OK)
	if p.Bytes() != 2 {
		t.Errorf("Bytes %d behind the last Drop; want 2", p.Bytes())
	}
}

// P6.2

func TestTakeUntilNoneIsFree(t *testing.T) {
	for n := 1; n <= api.MaxPool; n++ {
		p, m := taken(t, n, 3, n), reading(n, 3)
		for range n {
			m.take()
		}
		for range 3 {
			if i, err := p.Take(); i != 0 || err != api.ErrNone {
				t.Fatalf("%d of %d are taken: Take = %d, %v; want 0, ErrNone", n, n, i, err)
			}
			sameState(t, p, m)
		}
		// The next one that is free is the next one that is taken.
		follow(t, p, m, deed{kind: 'd', i: n - 1}, deed{kind: 't'}, deed{kind: 't'}, deed{kind: 'd', i: n / 2}, deed{kind: 't'}, deed{kind: 't'})
		sameState(t, p, m)
	}
}

func TestTakeOfTheExample(t *testing.T) {
	p := taken(t, 2, 4, 2)
	if i, err := p.Take(); i != 0 || err != api.ErrNone {
		t.Errorf("Take = %d, %v; want 0, ErrNone", i, err)
	}
	expect(t, "Drop(0)", p.Drop(0), api.OK)
	if i, err := p.Take(); i != 0 || err != api.OK {
		t.Errorf("Take = %d, %v; want 0", i, err)
	}
}

func TestFillByHolds(t *testing.T) {
	for _, c := range []struct {
		holds, octets int
		want          api.Errno
	}{
		{0, 0, api.ErrArg}, {0, 4, api.ErrArg}, {0, 5, api.ErrArg},
		{1, 0, api.OK}, {1, 3, api.OK}, {1, 4, api.OK}, {1, 5, api.ErrBig}, {1, 5000, api.ErrBig},
		{2, 0, api.ErrBusy}, {2, 4, api.ErrBusy}, {2, 5, api.ErrBusy}, {2, 5000, api.ErrBusy},
		{9, 0, api.ErrBusy}, {9, 5, api.ErrBusy},
	} {
		p, had := made(t, 2, 4), ""
		if c.holds > 0 {
			p, had = taken(t, 2, 4, 1), "xyz"
			expect(t, "Fill", p.Fill(0, []byte(had)), api.OK)
		}
		for i := 1; i < c.holds; i++ {
			expect(t, "Hold", p.Hold(0), api.OK)
		}
		b := sample.Octets(c.octets)
		if err := p.Fill(0, b); err != c.want {
			t.Errorf("held %d times: Fill(0, %d octets) = %v; want %v", c.holds, c.octets, err, c.want)
		}
		if c.want == api.OK {
			had = string(b)
		}
		if p.Octets(0) != had || p.Bytes() != len(had) || p.Holds(0) != c.holds {
			t.Errorf("held %d times, behind Fill(0, %d octets): %q, Bytes %d, Holds %d; want %q", c.holds, c.octets, p.Octets(0), p.Bytes(), p.Holds(0), had)
		}
	}
}

func TestFillAtEachSize(t *testing.T) {
	for _, size := range []int{1, 2, 3, 255, 256, 4095, 4096} {
		p := taken(t, 2, size, 2)
		for _, n := range []int{size, 0, 1, size - 1, size} {
			b := sample.Octets(n)
			expect(t, "Fill", p.Fill(1, b), api.OK)
			for _, more := range []int{size + 1, size + 2, 2*size + 1, 5000} {
				expect(t, "Fill of too many", p.Fill(1, sample.Octets(more)), api.ErrBig)
			}
			if p.Octets(1) != string(b) || p.Octets(0) != "" || p.Bytes() != n {
				t.Errorf("size %d, behind Fill of %d octets: %q, %q, Bytes %d", size, n, p.Octets(0), p.Octets(1), p.Bytes())
			}
		}
	}
}

func TestFillOfAnyOctets(t *testing.T) {
	for _, s := range []string{"\x00", "\xff\xfe\x00\n", "a\x80b", "\xe2\x82", "\u20ac"} {
		p := filled(t, s)
		if got, err := p.View(0, 0, len(s)); p.Octets(0) != s || got != s || err != api.OK {
			t.Errorf("behind Fill(%q): Octets %q, View %q, %v", s, p.Octets(0), got, err)
		}
	}
	for _, none := range [][]byte{nil, {}, []byte("abc")[:0]} {
		p := filled(t, "abc")
		if err := p.Fill(0, none); err != api.OK || p.Octets(0) != "" || p.Bytes() != 0 || p.Holds(0) != 1 {
			t.Errorf("behind Fill of none: %v, %q, Bytes %d, Holds %d", err, p.Octets(0), p.Bytes(), p.Holds(0))
		}
	}
}

func TestView(t *testing.T) {
	for _, c := range []struct {
		from, to int
		want     string
		err      api.Errno
	}{
		{0, 5, "abcde", 0}, {0, 4, "abcd", 0}, {1, 5, "bcde", 0}, {1, 3, "bc", 0}, {4, 5, "e", 0},
		// From at to.
		{0, 0, "", 0}, {3, 3, "", 0}, {5, 5, "", 0},
		// From below 0.
		{-1, 3, "", api.ErrArg}, {-1, 0, "", api.ErrArg}, {-1, -1, "", api.ErrArg}, {-2, -1, "", api.ErrArg}, {math.MinInt, 5, "", api.ErrArg},
		// From above to.
		{1, 0, "", api.ErrArg}, {3, 2, "", api.ErrArg}, {5, 4, "", api.ErrArg}, {6, 5, "", api.ErrArg}, {0, -1, "", api.ErrArg}, {math.MaxInt, 5, "", api.ErrArg}, {math.MaxInt, math.MinInt, "", api.ErrArg},
		// To above the octets' number, though not above the size.
		{0, 6, "", api.ErrArg}, {5, 6, "", api.ErrArg}, {6, 6, "", api.ErrArg}, {8, 8, "", api.ErrArg}, {0, 8, "", api.ErrArg}, {0, 9, "", api.ErrArg}, {9, 9, "", api.ErrArg},
		{0, math.MaxInt, "", api.ErrArg}, {math.MaxInt, math.MaxInt, "", api.ErrArg}, {0, 1<<32 + 5, "", api.ErrArg}, {1 << 32, 1<<32 + 5, "", api.ErrArg}, {math.MinInt, math.MaxInt, "", api.ErrArg},
	} {
		p := filled(t, "abcde")
		// Held more than once it is viewed all the same.
		for range 3 {
			if s, err := p.View(0, c.from, c.to); s != c.want || err != c.err {
				t.Errorf("View(0, %d, %d) = %q, %v; want %q, %v", c.from, c.to, s, err, c.want, c.err)
			}
			expect(t, "Hold", p.Hold(0), api.OK)
		}
	}
}

func TestViewOfOneThatIsNotHeld(t *testing.T) {
	p := taken(t, 3, 4, 2)
	expect(t, "Fill", p.Fill(0, []byte("abcd")), api.OK)
	expect(t, "Drop", p.Drop(0), api.OK)
	for _, i := range []int{0, 2, 3, -1} {
		for _, to := range []int{0, 1, 4, 5} {
			if s, err := p.View(i, 0, to); s != "" || err != api.ErrArg {
				t.Errorf("not held: View(%d, 0, %d) = %q, %v; want ErrArg", i, to, s, err)
			}
		}
		if s := p.Octets(i); s != "" {
			t.Errorf("not held: Octets(%d) = %q", i, s)
		}
	}
	if s, err := p.View(1, 0, 0); s != "" || err != api.OK {
		t.Errorf("held and empty: View(1, 0, 0) = %q, %v", s, err)
	}
	// What it had is gone when it is taken anew.
	for range 2 {
		if _, err := p.Take(); err != api.OK {
			t.Fatal(err)
		}
	}
	if _, err := p.View(0, 0, 1); p.Octets(0) != "" || err != api.ErrArg {
		t.Errorf("taken anew it has %q, and View(0, 0, 1) tells %v", p.Octets(0), err)
	}
}

func TestNumbersOfNoBuffer(t *testing.T) {
	for _, n := range []int{1, 2, 5, 64} {
		for _, first := range []int{0, 1, n} {
			p, m := taken(t, n, 2, first), reading(n, 2)
			for range first {
				m.take()
			}
			for i := range first {
				follow(t, p, m, deed{'f', i, "ab"})
			}
			for _, i := range noBuffers(n) {
				noBuffer(t, p, i)
			}
			sameState(t, p, m)
			freeOrHeld(t, p, n)
		}
	}
}

// noBuffer asks for a buffer that isn't there by every call that takes one.
func noBuffer(t *testing.T, p *pool.Pool, i int) {
	t.Helper()
	for _, b := range []string{"", "ab", "abc"} {
		expect(t, "Fill", p.Fill(i, []byte(b)), api.ErrArg)
	}
	expect(t, "Hold", p.Hold(i), api.ErrArg)
	expect(t, "Drop", p.Drop(i), api.ErrArg)
	for _, to := range []int{-1, 0, 1, 9} {
		if s, err := p.View(i, 0, to); s != "" || err != api.ErrArg {
			t.Fatalf("View(%d, 0, %d) = %q, %v; want ErrArg", i, to, s, err)
		}
	}
	if p.Holds(i) != 0 || p.Octets(i) != "" {
		t.Fatalf("Holds(%d) = %d, Octets %q", i, p.Holds(i), p.Octets(i))
	}
}

// P6.3

func TestHoldAndDropManyTimes(t *testing.T) {
	const times = 100_000
	p := taken(t, 3, 4, 1)
	expect(t, "Fill", p.Fill(0, []byte("abcd")), api.OK)
	for i := range times {
		expect(t, "Hold", p.Hold(0), api.OK)
		if p.Holds(0) != i+2 {
			t.Fatalf("Holds %d behind %d Holds", p.Holds(0), i+1)
		}
	}
	for i := range times {
		expect(t, "Drop", p.Drop(0), api.OK)
		if p.Holds(0) != times-i || p.Octets(0) != "abcd" || p.Bytes() != 4 {
			t.Fatalf("behind %d Drops: Holds %d, %q, Bytes %d", i+1, p.Holds(0), p.Octets(0), p.Bytes())
		}
	}
	if !slices.Equal(p.Free(), []int{1, 2}) {
		t.Fatalf("Free %d ahead of the last Drop", p.Free())
	}
	expect(t, "Drop", p.Drop(0), api.OK)
	if p.Holds(0) != 0 || p.Octets(0) != "" || p.Bytes() != 0 || !slices.Equal(p.Free(), []int{1, 2, 0}) {
		t.Fatalf("behind the last Drop: Holds %d, %q, Bytes %d, Free %d", p.Holds(0), p.Octets(0), p.Bytes(), p.Free())
	}
	for range 3 {
		expect(t, "Drop of a free one", p.Drop(0), api.ErrArg)
		expect(t, "Hold of a free one", p.Hold(0), api.ErrArg)
		if !slices.Equal(p.Free(), []int{1, 2, 0}) || p.Holds(0) != 0 {
			t.Fatalf("behind refused calls: Free %d, Holds %d", p.Free(), p.Holds(0))
		}
	}
}

func TestTakenAndDroppedManyTimes(t *testing.T) {
	p, m := made(t, 3, 4), reading(3, 4)
	for k := range 3000 {
		i, err := p.Take()
		want, _ := m.take()
		if i != want || i != k%3 || err != api.OK {
			t.Fatalf("round %d: Take = %d, %v; want %d", k, i, err, want)
		}
		follow(t, p, m, deed{'f', i, "abcd"[:k%5]}, deed{'h', i, ""}, deed{'d', i, ""}, deed{'d', i, ""})
		sameState(t, p, m)
	}
}

func TestTheLineBehindAnyOrderOfDrop(t *testing.T) {
	const n = 5
	sample.Each([]int{0, 1, 2, 3, 4}, n, func(order []int) {
		// Those that come again aren't held any more: nothing changes.
		p, m := taken(t, n, 2, n), reading(n, 2)
		for range n {
			m.take()
		}
		for _, i := range order {
			follow(t, p, m, deed{'f', i, "ab"}, deed{'d', i, ""})
			sameState(t, p, m)
		}
		for range n + 1 {
			follow(t, p, m, deed{kind: 't'})
			sameState(t, p, m)
		}
	})
}

func TestDropStandsBehindThoseThatAreFree(t *testing.T) {
	p := taken(t, 4, 2, 2)
	expect(t, "Drop", p.Drop(1), api.OK)
	if !slices.Equal(p.Free(), []int{2, 3, 1}) {
		t.Errorf("Free %d; want 2 3 1", p.Free())
	}
	expect(t, "Drop", p.Drop(0), api.OK)
	for _, want := range []int{2, 3, 1, 0} {
		if i, err := p.Take(); i != want || err != api.OK {
			t.Errorf("Take = %d, %v; want %d", i, err, want)
		}
	}
}

// P6.1 to P6.4

func TestAllShortWays(t *testing.T) {
	for _, c := range []struct {
		n     int
		most  int
		deeds []deed
	}{
		{1, 6, []deed{{'t', 0, ""}, {'f', 0, ""}, {'f', 0, "ab"}, {'f', 0, "abc"}, {'h', 0, ""}, {'d', 0, ""}}},
		{2, 5, []deed{{'t', 0, ""}, {'f', 0, "ab"}, {'f', 1, "c"}, {'f', 1, "abc"}, {'h', 0, ""}, {'h', 1, ""}, {'d', 0, ""}, {'d', 1, ""}, {'d', 2, ""}}},
		{3, 5, []deed{{'t', 0, ""}, {'f', 0, "ab"}, {'f', 2, "c"}, {'h', 1, ""}, {'h', 2, ""}, {'d', 0, ""}, {'d', 1, ""}, {'d', 2, ""}}},
	} {
		for first := range c.n + 1 {
			sample.Each(sample.Span(len(c.deeds)), c.most, func(picks []int) {
				deeds := slices.Repeat([]deed{{kind: 't'}}, first)
				for _, k := range picks {
					deeds = append(deeds, c.deeds[k])
				}
				p, m := made(t, c.n, 2), reading(c.n, 2)
				// What it tells behind the beginnings of deeds was seen at these.
				follow(t, p, m, deeds...)
				sameState(t, p, m)
				freeOrHeld(t, p, c.n)
				sameViews(t, p, m)
			})
		}
	}
}

func TestLongWays(t *testing.T) {
	for _, c := range [][2]int{{1, 1}, {2, 4096}, {7, 3}, {63, 100}, {64, 4096}} {
		n, size := c[0], c[1]
		p, m := made(t, n, size), reading(n, size)
		next := sample.Row(n*size + 12345)
		for range 4000 {
			d := deed{kind: "tttffhhddd"[next(10)], i: next(n+2) - 1}
			if d.kind == 'f' {
				d.b = string(sample.Octets(next(size + 2)))
			}
			follow(t, p, m, d)
			sameState(t, p, m)
			freeOrHeld(t, p, n)
			sameView(t, p, m, d.i, next(size+2)-1, next(size+2))
		}
	}
}

func TestRefusedCallsChangeNothing(t *testing.T) {
	p, m := made(t, 3, 2), reading(3, 2)
	follow(t, p, m, deed{kind: 't'}, deed{kind: 't'}, deed{'f', 0, "ab"}, deed{'f', 1, "c"}, deed{'h', 1, ""})
	for _, d := range []deed{
		{'f', 0, "abc"}, {'f', 1, "d"}, {'f', 1, "abc"}, {'f', 2, "d"}, {'f', 2, "abc"}, {'f', 3, ""}, {'f', -1, "abc"},
		{'h', 2, ""}, {'h', 3, ""}, {'h', -1, ""}, {'d', 2, ""}, {'d', 3, ""}, {'d', -1, ""},
	} {
		if _, err := act(p, d); err == api.OK {
			t.Errorf("%s is taken", d)
		}
		sameState(t, p, m)
		freeOrHeld(t, p, 3)
	}
	follow(t, p, m, deed{kind: 't'})
	for range 3 {
		follow(t, p, m, deed{kind: 't'})
		sameState(t, p, m)
	}
}

// P6.4

func TestWhatIsHeldTwiceIsNotWritten(t *testing.T) {
	p := taken(t, 2, 4, 2)
	expect(t, "Fill", p.Fill(0, []byte("abc")), api.OK)
	for times := 2; times < 6; times++ {
		expect(t, "Hold", p.Hold(0), api.OK)
		for _, b := range []string{"", "x", "abc", "wxyz", "too many"} {
			expect(t, "Fill", p.Fill(0, []byte(b)), api.ErrBusy)
			expect(t, "Fill of another one", p.Fill(1, []byte("wxyz")), api.OK)
			if p.Octets(0) != "abc" || p.Holds(0) != times {
				t.Fatalf("held %d times: now %q, Holds %d", times, p.Octets(0), p.Holds(0))
			}
		}
	}
	for range 4 {
		expect(t, "Drop", p.Drop(0), api.OK)
	}
	expect(t, "Fill", p.Fill(0, []byte("x")), api.OK)
	if p.Octets(0) != "x" || p.Octets(1) != "wxyz" {
		t.Errorf("%q, %q; want x, wxyz", p.Octets(0), p.Octets(1))
	}
}

func TestWhatIsHandedInStays(t *testing.T) {
	whole, b := sample.WithRoom([]byte("abcd"))
	p := taken(t, 2, 8, 2)
	for range 2 {
		expect(t, "Fill", p.Fill(0, b), api.OK)
		expect(t, "Fill", p.Fill(0, []byte("wxyzwxyz")), api.OK)
		expect(t, "Fill", p.Fill(1, b[:2]), api.OK)
		expect(t, "Fill", p.Fill(1, []byte("wxyz")), api.OK)
		expect(t, "Drop", p.Drop(1), api.OK)
		if _, err := p.Take(); err != api.OK {
			t.Fatal(err)
		}
	}
	if string(whole) != "abcdUUUU" {
		t.Errorf("what was handed in is now %q", whole)
	}
}

func TestWhatIsHandedInIsNotKept(t *testing.T) {
	p := taken(t, 2, 4, 2)
	for i := range 2 {
		whole, b := sample.WithRoom([]byte("abcd"))
		expect(t, "Fill", p.Fill(i, b), api.OK)
		sample.Spoil(whole)
	}
	// The same list for both.
	if p.Octets(0) != "abcd" || p.Octets(1) != "abcd" || p.Bytes() != 8 {
		t.Errorf("kept of what was handed in: %q, %q", p.Octets(0), p.Octets(1))
	}
	b := []byte("wxyz")
	expect(t, "Fill", p.Fill(0, b), api.OK)
	expect(t, "Fill", p.Fill(1, b[1:3]), api.OK)
	expect(t, "Fill", p.Fill(1, []byte("0123")), api.OK)
	if p.Octets(0) != "wxyz" || string(b) != "wxyz" {
		t.Errorf("buffers share: %q, handed in %q", p.Octets(0), b)
	}
}

func TestWhatWasViewedStays(t *testing.T) {
	p := filled(t, "abcdefgh")
	all := p.Octets(0)
	part, _ := p.View(0, 2, 5)
	expect(t, "Fill", p.Fill(0, []byte("01234567")), api.OK)
	second := p.Octets(0)
	expect(t, "Fill", p.Fill(0, []byte("x")), api.OK)
	expect(t, "Drop", p.Drop(0), api.OK)
	if _, err := p.Take(); err != api.OK {
		t.Fatal(err)
	}
	expect(t, "Fill", p.Fill(0, []byte("zzzzzzzz")), api.OK)
	if all != "abcdefgh" || part != "cde" || second != "01234567" {
		t.Errorf("what was answered is now %q, %q, %q", all, part, second)
	}
}

func TestFreeIsNewMemory(t *testing.T) {
	p, m := made(t, 4, 2), reading(4, 2)
	var answers, wants [][]int
	for _, d := range []deed{{kind: 't'}, {kind: 't'}, {'d', 0, ""}, {kind: 't'}, {'d', 1, ""}, {'d', 2, ""}, {kind: 't'}, {kind: 't'}} {
		answers, wants = append(answers, p.Free()), append(wants, slices.Clone(m.line))
		spoilt, other := p.Free(), p.Free()
		sample.Spoil(spoilt)
		if !slices.Equal(other, m.line) {
			t.Fatalf("two answers share: now %d; want %d", other, m.line)
		}
		follow(t, p, m, d)
		sameState(t, p, m)
	}
	for k, free := range answers {
		if !slices.Equal(free, wants[k]) {
			t.Errorf("answer %d is now %d; want %d", k, free, wants[k])
		}
	}
}

func TestFreeOfNone(t *testing.T) {
	p := taken(t, 2, 2, 2)
	if free := p.Free(); len(free) != 0 {
		t.Errorf("Free %d", free)
	}
	sample.Spoil(p.Free())
	expect(t, "Drop", p.Drop(1), api.OK)
	if free := p.Free(); !slices.Equal(free, []int{1}) {
		t.Errorf("Free %d; want 1", free)
	}
}

func TestAskingChangesNothing(t *testing.T) {
	p, m := made(t, 3, 2), reading(3, 2)
	follow(t, p, m, deed{kind: 't'}, deed{'f', 0, "ab"}, deed{'h', 0, ""}, deed{kind: 't'})
	for range 5 {
		sameState(t, p, m)
		sameViews(t, p, m)
	}
}

func TestPoolsStandAlone(t *testing.T) {
	one, two := taken(t, 2, 4, 2), taken(t, 3, 2, 1)
	expect(t, "Fill", one.Fill(0, []byte("abcd")), api.OK)
	expect(t, "Fill", two.Fill(0, []byte("xy")), api.OK)
	expect(t, "Fill", two.Fill(0, []byte("abc")), api.ErrBig)
	expect(t, "Hold", two.Hold(0), api.OK)
	expect(t, "Drop", one.Drop(1), api.OK)
	if one.Octets(0) != "abcd" || two.Octets(0) != "xy" || one.Holds(0) != 1 || two.Holds(0) != 2 {
		t.Errorf("pools share: %q, %q, Holds %d, %d", one.Octets(0), two.Octets(0), one.Holds(0), two.Holds(0))
	}
	if !slices.Equal(one.Free(), []int{1}) || !slices.Equal(two.Free(), []int{1, 2}) || one.Bytes() != 4 || two.Bytes() != 2 {
		t.Errorf("pools share: Free %d, %d, Bytes %d, %d", one.Free(), two.Free(), one.Bytes(), two.Bytes())
	}
	long := strings.Repeat("z", 4096)
	great := taken(t, 64, 4096, 64)
	for i := range 64 {
		expect(t, "Fill", great.Fill(i, []byte(long)), api.OK)
	}
	if great.Bytes() != 64*4096 || one.Bytes() != 4 {
		t.Errorf("Bytes %d, %d", great.Bytes(), one.Bytes())
	}
}
