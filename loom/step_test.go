package loom_test

import (
	"math"
	"math/big"
	"slices"
	"testing"

	"reedbed/loom"
	"reedbed/sample"
)

// modulo is a pick's place among so many, by numbers without end.
func modulo(pick, many int) int {
	place := new(big.Int).Mod(big.NewInt(int64(pick)), big.NewInt(int64(many)))
	return int(place.Int64())
}

// step is what Step has to answer.
func (m *plain) step(pick int) (int, bool) {
	ready := m.ready()
	if len(ready) == 0 {
		return 0, false
	}
	n := ready[modulo(pick, len(ready))]
	m.turns = append(m.turns, n)
	m.w.step(n)
	return n, true
}

// stepOf lets a loom and its plain reading take a step, and holds what each
// answers against each other.
func stepOf(t *testing.T, l *loom.Loom, m *plain, pick int) {
	t.Helper()
	ready := m.ready()
	want, wants := m.step(pick)
	if n, ok := l.Step(pick); n != want || ok != wants {
		t.Fatalf("Step(%d) of %v = %d, %t; want %d, %t", pick, ready, n, ok, want, wants)
	}
}

// picks are any numbers, and those about so many.
func picks(many int) []int {
	all := slices.Concat(sample.Strays(), sample.Sizes(), []int{math.MinInt + 1, math.MaxInt - 1, 1<<32 + many, -1<<32 - many})
	for n := -3*many - 1; n <= 3*many+1; n++ {
		all = append(all, n)
	}
	return all
}

// asker is a task whose step does anything.
type asker struct {
	name string
	left int
	do   func()
}

func (a *asker) Name() string { return a.name }
func (a *asker) Ready() bool  { return true }
func (a *asker) Over() bool   { return a.left == 0 }
func (a *asker) Step()        { a.left--; a.do() }

// P20.2: Step

func TestStepOfTheExample(t *testing.T) {
	l, m := made(t, states(5, 5))
	if n, ok := l.Step(3); n != 1 || !ok {
		t.Errorf("Step(3) = %d, %t; want 1, true", n, ok)
	}
	m.step(3)
	told(t, l, m)
	same(t, "Turns", l.Turns(), 1)
}

func TestStepPicks(t *testing.T) {
	for many := 1; many <= 9; many++ {
		w := states(slices.Repeat([]int{-1}, many)...)
		l, m := made(t, w)
		for _, pick := range picks(many) {
			stepOf(t, l, m, pick)
			told(t, l, m)
		}
		for n, s := range w {
			if s.taken != m.w[n].taken {
				t.Errorf("task %d of %d took %d; want %d", n, many, s.taken, m.w[n].taken)
			}
		}
	}
}

func TestStepPicksByHand(t *testing.T) {
	for _, c := range []struct{ many, pick, want int }{
		{1, 0, 0}, {1, 1, 0}, {1, -1, 0}, {1, math.MinInt, 0}, {1, math.MaxInt, 0},
		{3, 0, 0}, {3, 2, 2}, {3, 3, 0}, {3, 4, 1}, {3, 300, 0},
		{3, -1, 2}, {3, -2, 1}, {3, -3, 0}, {3, -4, 2}, {3, -300, 0},
		{3, math.MaxInt, 1}, {3, math.MinInt, 1}, {2, math.MinInt, 0}, {2, math.MaxInt, 1},
		{5, math.MaxInt, 2}, {5, math.MinInt, 2}, {5, math.MinInt + 1, 3},
	} {
		l, _ := made(t, states(slices.Repeat([]int{1}, c.many)...))
		if n, ok := l.Step(c.pick); n != c.want || !ok {
			t.Errorf("of %d: Step(%d) = %d, %t; want %d", c.many, c.pick, n, ok, c.want)
		}
		same(t, "Turns", l.Turns(), c.want)
	}
}

func TestStepAnswersTheNumberNotThePlace(t *testing.T) {
	w := states(1, -1, 0, -1, 1, -1)
	w[0].barred, w[4].barred = true, true
	l, m := made(t, w)
	same(t, "Ready", l.Ready(), 1, 3, 5)
	for _, c := range [][2]int{{0, 1}, {1, 3}, {2, 5}, {3, 1}, {-1, 5}, {-2, 3}, {5, 5}, {4, 3}} {
		if n, ok := l.Step(c[0]); n != c[1] || !ok {
			t.Errorf("Step(%d) = %d, %t; want %d", c[0], n, ok, c[1])
		}
		m.step(c[0])
		told(t, l, m)
	}
}

func TestStepOfNoneReady(t *testing.T) {
	barred := state{left: 2, barred: true}
	for _, w := range []world{nil, {barred}, states(0), states(0, 0), {barred, {left: 0}, barred}} {
		l, m := made(t, w)
		for _, pick := range picks(2) {
			if n, ok := l.Step(pick); n != 0 || ok {
				t.Fatalf("Step(%d) of %v = %d, %t; want 0, false", pick, w, n, ok)
			}
		}
		told(t, l, m)
		for n, s := range w {
			if s.taken != 0 {
				t.Errorf("task %d of %v took a step", n, w)
			}
		}
	}
}

func TestStepOfNoneReadyBehindSome(t *testing.T) {
	w := states(2, 1)
	w[0].acts = []act{{'b', 0}}
	l, m := made(t, w)
	stepOf(t, l, m, 0)
	stepOf(t, l, m, 0)
	for pick := -3; pick <= 3; pick++ {
		if n, ok := l.Step(pick); n != 0 || ok {
			t.Errorf("Step(%d) = %d, %t; want 0, false", pick, n, ok)
		}
		told(t, l, m)
	}
	same(t, "Turns", l.Turns(), 0, 1)
	// One that is ready again goes on.
	wake(w, m, 0, 1)
	stepOf(t, l, m, 7)
	told(t, l, m)
	if !l.Over() {
		t.Error("not Over")
	}
}

func TestTasksThatChangeOneAnother(t *testing.T) {
	var acts []act
	for _, kind := range []byte{'b', 'u', 'e', 'm'} {
		for who := range 3 {
			acts = append(acts, act{kind, who})
		}
	}
	for _, first := range acts {
		for _, second := range acts {
			for _, third := range acts {
				w := states(2, 1, 2)
				w[0].acts, w[1].acts, w[2].acts = []act{first, {'.', 0}}, []act{second}, []act{third, {'u', 1}, {'.', 0}}
				w[1].barred = true
				l, m := made(t, w)
				for pick := range 6 {
					stepOf(t, l, m, 2*pick+1)
					told(t, l, m)
				}
			}
		}
	}
}

func TestATaskIsToldOfItsOwnStep(t *testing.T) {
	l := loom.New()
	w := states(-1)
	var steps []int
	x := &asker{name: "asker", left: 6}
	x.do = func() {
		steps = append(steps, l.Steps())
		turns := l.Turns()
		if len(turns) != l.Steps() || turns[len(turns)-1] != 1 {
			t.Errorf("within step %d of it: Turns %v", l.Steps(), turns)
		}
		same(t, "Ready", l.Ready(), map[bool][]int{true: {0}, false: {0, 1}}[x.left == 0]...)
		if names := l.Names(); l.Over() || !slices.Equal(names, []string{"task 0", "asker"}) {
			t.Errorf("Over %t, Names %q", l.Over(), names)
		}
	}
	add(t, l, hand{w, 0}, 0)
	add(t, l, x, 1)
	for _, pick := range []int{1, 0, 0, 1, 1, 0, 1} {
		if n, ok := l.Step(pick); n != pick || !ok {
			t.Fatalf("Step(%d) = %d, %t", pick, n, ok)
		}
	}
	same(t, "Steps within", steps, 1, 4, 5, 7)
	l.Run(-1)
	same(t, "Steps within", steps, 1, 4, 5, 7, 8, 10)
}

func TestATaskThatAddsTasks(t *testing.T) {
	l := loom.New()
	w := states(1, 1, 1)
	x := &asker{name: "adds", left: 3}
	x.do = func() {
		n := 2 - x.left
		add(t, l, hand{w, n}, 1+n)
		add(t, l, nil, -1)
		if ready := l.Ready(); !slices.Contains(ready, 1+n) {
			t.Errorf("Ready %v without the one that was added", ready)
		}
	}
	add(t, l, x, 0)
	if n := l.Run(0, 0, 2); n != 6 || !l.Over() {
		t.Errorf("Run = %d, Over %t", n, l.Over())
	}
	same(t, "Turns", l.Turns(), 0, 0, 2, 0, 3, 1)
}

func TestATaskThatLetsOthersTakeSteps(t *testing.T) {
	l := loom.New()
	w := states(4, 4)
	x := &asker{name: "lets", left: 2}
	x.do = func() {
		ahead := l.Steps()
		if n, ok := l.Step(1); n != 1 || !ok || l.Steps() != ahead+1 {
			t.Errorf("Step within a step = %d, %t; %d steps behind %d", n, ok, l.Steps(), ahead)
		}
	}
	add(t, l, hand{w, 0}, 0)
	add(t, l, hand{w, 1}, 1)
	add(t, l, x, 2)
	if n, ok := l.Step(2); n != 2 || !ok {
		t.Errorf("Step(2) = %d, %t", n, ok)
	}
	same(t, "Turns", l.Turns(), 2, 1)
	// Those within the second step of that task aren't this Run's.
	if n := l.Run(-1); n != 7 || !l.Over() || l.Steps() != 10 {
		t.Errorf("Run = %d, Over %t, Steps %d", n, l.Over(), l.Steps())
	}
	same(t, "Turns", l.Turns(), 2, 1, 2, 1, 0, 1, 0, 1, 0, 0)
}

// falls is a task that panics when it is asked for that, or for all. It is
// ready, takes one step, and is over then.
type falls struct {
	by   string
	took *int
}

func (f falls) fall(by string) {
	if f.by == by || f.by == "all" {
		panic("a task that panics")
	}
}

func (f falls) Name() string { f.fall("name"); return "falls" }
func (f falls) Ready() bool  { f.fall("ready"); return true }
func (f falls) Over() bool   { f.fall("over"); return *f.took > 0 }
func (f falls) Step()        { *f.took++; f.fall("step") }

func TestTasksThatPanic(t *testing.T) {
	for _, c := range []struct {
		by, name  string
		took      int
		over, not bool
	}{
		{"none", "falls", 1, true, false}, {"name", "", 1, true, false}, {"step", "falls", 1, true, false},
		{"ready", "falls", 0, false, true}, {"over", "falls", 0, false, true}, {"all", "", 0, false, true},
	} {
		l, took := loom.New(), 0
		w := states(2, 2)
		add(t, l, hand{w, 0}, 0)
		add(t, l, falls{c.by, &took}, 1)
		add(t, l, hand{w, 1}, 2)
		if names := l.Names(); !slices.Equal(names, []string{"task 0", c.name, "task 1"}) {
			t.Errorf("%s: Names %q", c.by, names)
		}
		if ready := l.Ready(); slices.Contains(ready, 1) == c.not || len(ready) < 2 {
			t.Errorf("%s: Ready %v", c.by, ready)
		}
		if n := l.Run(1, 1); n != 4+took || took != c.took || l.Steps() != n || l.Over() != c.over {
			t.Errorf("%s: Run = %d, %d by it, Steps %d, Over %t", c.by, n, took, l.Steps(), l.Over())
		}
	}
}

func TestTasksThatAreNilPointers(t *testing.T) {
	// A task that isn't nil, but whose methods can't be called.
	var none *falls
	l := loom.New()
	add(t, l, none, 0)
	add(t, l, hand{states(1), 0}, 1)
	same(t, "Ready", l.Ready(), 1)
	if names := l.Names(); !slices.Equal(names, []string{"", "task 0"}) {
		t.Errorf("Names %q", names)
	}
	if n := l.Run(3); n != 1 || l.Over() {
		t.Errorf("Run = %d, Over %t", n, l.Over())
	}
}
