package loom_test

import (
	"slices"
	"strconv"
	"testing"

	"reedbed/loom"
	"reedbed/sample"
)

// act is what else happens by a step: who is barred ('b'), isn't barred any
// more ('u'), is over ('e'), has one step more ('m'), or nobody ('.').
type act struct {
	kind byte
	who  int
}

// state is where a task of a world stands.
type state struct {
	name   string
	left   int // steps that it takes till it is over; below 0: it never is
	barred bool
	acts   []act // those of its steps, over and over
	taken  int
}

// world are tasks that change one another.
type world []state

// copied is a world that stands as this one does.
func (w world) copied() world {
	return slices.Clone(w)
}

// step lets a task take one.
func (w world) step(n int) {
	s := &w[n]
	if s.left > 0 {
		s.left--
	}
	if len(s.acts) > 0 {
		w.act(s.acts[s.taken%len(s.acts)])
	}
	s.taken++
}

// act does what else happens.
func (w world) act(a act) {
	s := &w[a.who%len(w)]
	switch a.kind {
	case 'b':
		s.barred = true
	case 'u':
		s.barred = false
	case 'e':
		s.left = 0
	case 'm':
		s.left++
	}
}

// hand is a world's task of that number.
type hand struct {
	w world
	n int
}

func (h hand) Name() string { return h.w[h.n].name }
func (h hand) Ready() bool  { return !h.w[h.n].barred }
func (h hand) Over() bool   { return h.w[h.n].left == 0 }
func (h hand) Step()        { h.w.step(h.n) }

// plain is a loom by the document's words, of all of a world's tasks.
type plain struct {
	w     world
	turns []int
}

func (m *plain) ready() []int {
	var all []int
	for n, s := range m.w {
		if s.left != 0 && !s.barred {
			all = append(all, n)
		}
	}
	return all
}

func (m *plain) over() bool {
	return !slices.ContainsFunc(m.w, func(s state) bool { return s.left != 0 })
}

func (m *plain) names() []string {
	var all []string
	for _, s := range m.w {
		all = append(all, s.name)
	}
	return all
}

// made is a loom of a world's tasks, and its plain reading.
func made(t *testing.T, w world) (*loom.Loom, *plain) {
	t.Helper()
	l, m := loom.New(), &plain{w: w.copied()}
	if l == nil {
		t.Fatal("New: nil")
	}
	for n := range w {
		add(t, l, hand{w, n}, n)
	}
	return l, m
}

// add adds a task, which has to get that number.
func add(t *testing.T, l *loom.Loom, x loom.Task, want int) {
	t.Helper()
	if n := l.Add(x); n != want {
		t.Fatalf("Add = %d; want %d", n, want)
	}
}

// told holds all that a loom tells against the plain reading, twice, as asking
// changes nothing.
func told(t *testing.T, l *loom.Loom, m *plain) {
	t.Helper()
	for range 2 {
		if ready := l.Ready(); !slices.Equal(ready, m.ready()) || l.Over() != m.over() {
			t.Fatalf("Ready %v, Over %t; want %v, %t", ready, l.Over(), m.ready(), m.over())
		}
		if turns := l.Turns(); !slices.Equal(turns, m.turns) || l.Steps() != len(m.turns) {
			t.Fatalf("Steps %d, Turns %v; want %d, %v", l.Steps(), turns, len(m.turns), m.turns)
		}
		if names := l.Names(); !slices.Equal(names, m.names()) {
			t.Fatalf("Names %q; want %q", names, m.names())
		}
	}
}

// wake lets a task of a world, and of its plain reading, have so many steps left
// and not be barred, by nothing that a loom did.
func wake(w world, m *plain, n, left int) {
	for _, w := range []world{w, m.w} {
		w[n].left, w[n].barred = left, false
	}
}

// states are tasks that take so many steps each, and change nothing else.
func states(lefts ...int) world {
	var w world
	for n, left := range lefts {
		w = append(w, state{name: "task " + strconv.Itoa(n), left: left})
	}
	return w
}

// same holds a list of numbers that a loom answers against these.
func same(t *testing.T, what string, got []int, want ...int) {
	t.Helper()
	if !slices.Equal(got, want) {
		t.Fatalf("%s = %v; want %v", what, got, want)
	}
}

// P20.1

func TestANewLoom(t *testing.T) {
	l, m := made(t, nil)
	told(t, l, m)
	if !l.Over() || l.Steps() != 0 || len(l.Ready())+len(l.Turns())+len(l.Names()) != 0 {
		t.Errorf("Over %t, Steps %d, Ready %v, Turns %v, Names %q", l.Over(), l.Steps(), l.Ready(), l.Turns(), l.Names())
	}
}

func TestAddNumbers(t *testing.T) {
	l := loom.New()
	w := states(1)
	for n := range 5000 {
		add(t, l, hand{w, 0}, n)
	}
	same(t, "Ready", l.Ready(), sample.Span(5000)...)
	if names := l.Names(); !slices.Equal(names, slices.Repeat([]string{"task 0"}, 5000)) {
		t.Errorf("%d names", len(names))
	}
}

func TestAddOfATaskTwice(t *testing.T) {
	w := states(2, 1)
	one, other := hand{w, 0}, hand{w, 1}
	l := loom.New()
	for n, x := range []hand{one, one, other, one} {
		add(t, l, x, n)
	}
	same(t, "Ready", l.Ready(), 0, 1, 2, 3)
	if names := l.Names(); !slices.Equal(names, []string{"task 0", "task 0", "task 1", "task 0"}) {
		t.Errorf("Names %q", names)
	}
	if n, ok := l.Step(3); n != 3 || !ok || w[0].left != 1 {
		t.Errorf("Step(3) = %d, %t; %d left", n, ok, w[0].left)
	}
	same(t, "Ready", l.Ready(), 0, 1, 2, 3)
	if n, ok := l.Step(1); n != 1 || !ok || w[0].left != 0 {
		t.Errorf("Step(1) = %d, %t; %d left", n, ok, w[0].left)
	}
	// Over by one of its numbers it is by all.
	same(t, "Ready", l.Ready(), 2)
	same(t, "Turns", l.Turns(), 3, 1)
}

func TestAddOfNil(t *testing.T) {
	for many := range 5 {
		w := states(2, -1, 0, 3, 1)[:many]
		l, m := made(t, w)
		for range 3 {
			add(t, l, nil, -1)
			told(t, l, m)
		}
		stepOf(t, l, m, 1)
		add(t, l, nil, -1)
		told(t, l, m)
		// It took no number.
		more := append(w.copied(), state{name: "more", left: 1})
		add(t, l, hand{more, many}, many)
		same(t, "Ready", l.Ready(), append(m.ready(), many)...)
	}
}

func TestReadyOfAllStates(t *testing.T) {
	some := []state{
		{name: "ready", left: 2}, {name: "barred", left: 1, barred: true}, {name: "over", left: 0}, {name: "over and barred", left: 0, barred: true}, {name: "", left: -1},
	}
	sample.Each(some, 5, func(list []state) {
		w := world(list).copied()
		l, m := made(t, w)
		told(t, l, m)
		// Some that get otherwise, by nothing that the loom did.
		for n := range w {
			w[n], m.w[n] = some[n], some[n]
			told(t, l, m)
		}
	})
}

func TestReadyAtItsEdges(t *testing.T) {
	w := states(1, 1, 1, 1, 1)
	l, m := made(t, w)
	for bits := range 1 << 10 {
		for n := range w {
			w[n].barred, w[n].left = bits>>n&1 != 0, bits>>(5+n)&1
		}
		m.w = w.copied()
		told(t, l, m)
	}
	same(t, "Ready", l.Ready())
}

func TestReadyAndOverAtOnce(t *testing.T) {
	w := states(0, 1, 0)
	l, _ := made(t, w)
	if h := (hand{w, 0}); !h.Ready() || !h.Over() {
		t.Fatal("the task doesn't say both")
	}
	same(t, "Ready", l.Ready(), 1)
}

func TestOver(t *testing.T) {
	for many := 1; many <= 6; many++ {
		w := states(slices.Repeat([]int{0}, many)...)
		l, _ := made(t, w)
		over := func(want bool) {
			t.Helper()
			if l.Over() != want {
				t.Errorf("of %d: Over %t; want %t", many, !want, want)
			}
		}
		over(true)
		for n := range w {
			w[n].left = 1
			over(false)
			w[n].barred = true
			over(false)
			w[n].left = 0
			over(true)
			w[n].barred = false
		}
		for n := range w {
			w[n].left = -1
		}
		over(false)
		add(t, l, hand{states(1), 0}, many)
		over(false)
	}
}

func TestNames(t *testing.T) {
	names := append(sample.Strange(), "", "b", "a", "b", "", "source", "a b\n", "\x00")
	var w world
	for n, name := range names {
		w = append(w, state{name: name, left: n % 3, barred: n%2 == 0})
	}
	l, m := made(t, w)
	if got := l.Names(); !slices.Equal(got, names) {
		t.Fatalf("Names %q; want %q", got, names)
	}
	for pick := range 20 {
		stepOf(t, l, m, pick)
		told(t, l, m)
	}
}

func TestTasksThatComeLater(t *testing.T) {
	w := states(2, 2, 2, 2)
	l := loom.New()
	add(t, l, hand{w, 2}, 0)
	if n, ok := l.Step(5); n != 0 || !ok {
		t.Errorf("Step(5) = %d, %t", n, ok)
	}
	add(t, l, hand{w, 0}, 1)
	same(t, "Ready", l.Ready(), 0, 1)
	if n := l.Run(1, 1); n != 3 || !l.Over() {
		t.Errorf("Run = %d, Over %t", n, l.Over())
	}
	add(t, l, hand{w, 3}, 2)
	if l.Over() {
		t.Error("Over, though one came that isn't")
	}
	same(t, "Ready", l.Ready(), 2)
	same(t, "Turns", l.Turns(), 0, 1, 1, 0)
	if names := l.Names(); !slices.Equal(names, []string{"task 2", "task 0", "task 3"}) {
		t.Errorf("Names %q", names)
	}
}
