package loom_test

import (
	"math"
	"slices"
	"testing"

	"reedbed/loom"
	"reedbed/sample"
)

// most is how many steps a Run goes on up to.
const most = 100000

// run is what Run has to answer.
func (m *plain) run(picks ...int) int {
	ahead := len(m.turns)
	for _, pick := range picks {
		m.step(pick)
	}
	for pick := 0; len(m.ready()) > 0 && len(m.turns)-ahead < most; pick++ {
		m.step(pick)
	}
	return len(m.turns) - ahead
}

// runOf runs a loom and its plain reading, and holds what they answer and tell
// against each other.
func runOf(t *testing.T, l *loom.Loom, m *plain, picks ...int) {
	t.Helper()
	want := m.run(picks...)
	if n := l.Run(picks...); n != want {
		t.Fatalf("Run(%d) = %d; want %d", picks, n, want)
	}
	told(t, l, m)
}

// anyWorld is one of up to so many tasks, which change one another.
func anyWorld(next func(below int) int, tasks int) world {
	var w world
	for range 1 + next(tasks) {
		s := state{name: string(rune('a' + next(9))), left: next(7), barred: next(5) == 0}
		for range next(4) {
			s.acts = append(s.acts, act{"bbuue."[next(6)], next(tasks)})
		}
		w = append(w, s)
	}
	return w
}

// anyPicks are up to so many.
func anyPicks(next func(below int) int, many int) []int {
	some := picks(5)
	var all []int
	for range next(many + 1) {
		all = append(all, some[next(len(some))])
	}
	return all
}

// P20.2: Run

func TestRunByHand(t *testing.T) {
	for _, c := range []struct {
		lefts, picks, turns []int
	}{
		{nil, nil, nil},
		{nil, []int{1, 2}, nil},
		{[]int{0, 0}, []int{1, 2}, nil},
		{[]int{3}, nil, []int{0, 0, 0}},
		{[]int{3, 3, 3}, nil, []int{0, 1, 2, 0, 1, 2, 0, 2, 1}},
		// The picks behind the list begin at 0.
		{[]int{3, 3, 3}, []int{2, 2}, []int{2, 2, 0, 1, 2, 1, 0, 1, 0}},
		{[]int{3, 3, 3}, []int{0}, []int{0, 0, 1, 2, 0, 1, 2, 1, 2}},
		{[]int{2, 2}, []int{1, -1, -1, -1}, []int{1, 1, 0, 0}},
		// Picks that are left over do nothing.
		{[]int{2, 2}, []int{1, -1, -1, -1, 7, 8, -9}, []int{1, 1, 0, 0}},
		{[]int{1, 1, 1}, []int{math.MinInt, math.MaxInt}, []int{1, 2, 0}},
		{[]int{1, 0, 2, 0, 1}, []int{1, 1}, []int{2, 2, 0, 4}},
	} {
		l, _ := made(t, states(c.lefts...))
		if n := l.Run(c.picks...); n != len(c.turns) || l.Steps() != n || !l.Over() {
			t.Errorf("Run(%d) of %d = %d; Steps %d, Over %t", c.picks, c.lefts, n, l.Steps(), l.Over())
		}
		same(t, "Turns", l.Turns(), c.turns...)
		if n := l.Run(c.picks...); n != 0 || l.Steps() != len(c.turns) {
			t.Errorf("Run(%d) again = %d; Steps %d", c.picks, n, l.Steps())
		}
	}
}

func TestRunCountsItsOwnSteps(t *testing.T) {
	w := states(2, 3)
	l, m := made(t, w)
	for range 3 {
		stepOf(t, l, m, 1)
	}
	if n := l.Run(5); n != 2 || l.Steps() != 5 {
		t.Errorf("Run = %d, Steps %d; want 2, 5", n, l.Steps())
	}
	w[1].left = 4
	if n := l.Run(); n != 4 || l.Steps() != 9 {
		t.Errorf("Run = %d, Steps %d; want 4, 9", n, l.Steps())
	}
	same(t, "Turns", l.Turns(), 1, 1, 1, 0, 0, 1, 1, 1, 1)
}

func TestRunOfNoneReady(t *testing.T) {
	w := states(2, 0)
	w[0].barred = true
	l, m := made(t, w)
	for _, list := range [][]int{nil, {}, {0}, {1, 2, 3}, picks(3)} {
		if n := l.Run(list...); n != 0 {
			t.Errorf("Run(%d) = %d; want 0", list, n)
		}
		told(t, l, m)
	}
	if w[0].taken != 0 || w[1].taken != 0 {
		t.Error("a task took a step")
	}
}

func TestRunWhereNoneIsReadyAnyMore(t *testing.T) {
	// The last step that there is falls ahead of, at, and behind the last pick.
	for steps := range 6 {
		for many := range 8 {
			w := states(-1)
			for range steps {
				w[0].acts = append(w[0].acts, act{'.', 0})
			}
			w[0].acts = append(w[0].acts, act{'b', 0})
			l, m := made(t, w)
			runOf(t, l, m, sample.Span(many)...)
			if l.Steps() != steps+1 || l.Over() {
				t.Errorf("%d picks: %d steps; want %d", many, l.Steps(), steps+1)
			}
		}
	}
}

func TestEachPickIsTried(t *testing.T) {
	// A task that gets ready by being asked, each third time.
	asks, took := 0, 0
	l := loom.New()
	add(t, l, turned{func() bool { asks++; return asks%3 == 0 }, func() { took++ }}, 0)
	if n := l.Run(sample.Span(9)...); n != 3 || took != 3 {
		t.Errorf("Run = %d, %d steps; want 3", n, took)
	}
}

// turned is a task without an end whose readiness and step are anything.
type turned struct {
	ready func() bool
	step  func()
}

func (turned) Name() string  { return "turned" }
func (x turned) Ready() bool { return x.ready() }
func (turned) Over() bool    { return false }
func (x turned) Step()       { x.step() }

func TestRunOfTasksThatNeverGetOver(t *testing.T) {
	for _, tasks := range []int{1, 2, 3} {
		for _, list := range [][]int{nil, {0}, {-1, -1, -1}, sample.Span(1000), make([]int, most-1), make([]int, most)} {
			l, m := made(t, states(slices.Repeat([]int{-1}, tasks)...))
			if n := l.Run(list...); n != most || l.Steps() != most || l.Over() {
				t.Errorf("%d picks: Run = %d, Steps %d, Over %t", len(list), n, l.Steps(), l.Over())
			}
			m.run(list...)
			told(t, l, m)
		}
	}
}

func TestRunAgainOfTasksThatNeverGetOver(t *testing.T) {
	l, m := made(t, states(-1, 5, -1))
	stepOf(t, l, m, 2)
	for k := range 3 {
		runOf(t, l, m, sample.Span(k)...)
		if l.Steps() != 1+(k+1)*most {
			t.Errorf("Steps %d", l.Steps())
		}
	}
}

func TestRunAboutItsMost(t *testing.T) {
	for _, c := range [][2]int{{most - 1, most - 1}, {most, most}, {most + 1, most}, {2 * most, most}} {
		l, m := made(t, states(c[0]))
		if n := l.Run(); n != c[1] || l.Over() != (c[0] <= most) {
			t.Errorf("Run of %d steps = %d; want %d", c[0], n, c[1])
		}
		m.run()
		runOf(t, l, m)
		if !l.Over() {
			t.Errorf("%d steps: not Over behind two", c[0])
		}
	}
}

func TestRunOfMorePicksThanItGoesOn(t *testing.T) {
	// Each pick has its step; behind so many there is no going on.
	l, m := made(t, states(-1, -1))
	runOf(t, l, m, sample.Span(most+7)...)
	if l.Steps() != most+7 {
		t.Errorf("Steps %d; want %d", l.Steps(), most+7)
	}
}

func TestRunOfAllShortRows(t *testing.T) {
	some := []state{
		{name: "x", left: 1}, {name: "y", left: 2, acts: []act{{'b', 0}, {'u', 2}}}, {name: "z", left: 3, barred: true}, {name: "u", left: 2, acts: []act{{'u', 0}, {'e', 1}}}, {name: "e", left: 1, acts: []act{{'u', 1}}},
	}
	sample.Each(some, 3, func(list []state) {
		sample.Each([]int{0, 1, -1, 5}, 3, func(picks []int) {
			l, m := made(t, world(list).copied()[:len(list):len(list)])
			runOf(t, l, m, picks...)
		})
	})
}

func TestLongRows(t *testing.T) {
	for start := range 400 {
		next := sample.Row(start)
		w := anyWorld(next, 12)
		l, m := made(t, w)
		for range 6 {
			for _, pick := range anyPicks(next, 12) {
				stepOf(t, l, m, pick)
				told(t, l, m)
			}
			runOf(t, l, m, anyPicks(next, 20)...)
			// What ended goes on by something that the loom didn't do.
			wake(w, m, next(len(w)), next(9))
			told(t, l, m)
		}
	}
}
