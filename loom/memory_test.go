package loom_test

import (
	"slices"
	"testing"

	"reedbed/loom"
	"reedbed/sample"
)

// P20.3

// spoil overwrites a loom's answers with their spare room.
func spoil(l *loom.Loom) {
	for range 2 {
		sample.SpoilBy(l.Ready(), -7)
		sample.SpoilBy(l.Turns(), -8)
		sample.SpoilBy(l.Names(), "spoilt")
	}
}

func TestAnswersAreNewMemory(t *testing.T) {
	for start := range 20 {
		next := sample.Row(start)
		l, m := made(t, anyWorld(next, 9))
		for _, pick := range picks(4) {
			spoil(l)
			told(t, l, m)
			stepOf(t, l, m, pick)
		}
		spoil(l)
		told(t, l, m)
		runOf(t, l, m, 3, 4)
	}
}

func TestAnswersBesideOneAnother(t *testing.T) {
	l, m := made(t, states(3, 2, 4))
	for pick := range 9 {
		ready, turns, names := l.Ready(), l.Turns(), l.Names()
		spoil(l)
		same(t, "Ready", ready, m.ready()...)
		same(t, "Turns", turns, m.turns...)
		if !slices.Equal(names, m.names()) {
			t.Fatalf("an answer of Names changed with another one: %q", names)
		}
		stepOf(t, l, m, pick)
	}
}

func TestAnswersBesideLaterCalls(t *testing.T) {
	next := sample.Row(20)
	w := anyWorld(next, 9)
	l, m := made(t, w)
	type told struct {
		ready, turns []int
		names        []string
	}
	var answers, wants []told
	ask := func() {
		answers = append(answers, told{l.Ready(), l.Turns(), l.Names()})
		wants = append(wants, told{m.ready(), slices.Clone(m.turns), m.names()})
	}
	for n := range 200 {
		ask()
		stepOf(t, l, m, next(50)-25)
		if n%20 == 0 {
			l.Run(1, 2)
			m.run(1, 2)
		}
		n := next(len(w))
		wake(w, m, n, 3)
		w[n].name, m.w[n].name = "other", "other"
	}
	for k, got := range answers {
		same(t, "Ready, behind later calls,", got.ready, wants[k].ready...)
		same(t, "Turns, behind later calls,", got.turns, wants[k].turns...)
		if !slices.Equal(got.names, wants[k].names) {
			t.Fatalf("answer %d of Names is now %q; want %q", k, got.names, wants[k].names)
		}
	}
}

func TestPicksAreNeitherChangedNorKept(t *testing.T) {
	for many := range 12 {
		next := sample.Row(many)
		w := anyWorld(next, 6)
		l, m := made(t, w)
		for range 5 {
			list := append(anyPicks(next, 9), next(9))
			whole, part := sample.WithRoom(list)
			want := slices.Clone(whole)
			runOf(t, l, m, part...)
			same(t, "picks that were handed in", whole, want...)
			sample.Spoil(whole)
			told(t, l, m)
			wake(w, m, 0, 2)
			stepOf(t, l, m, next(9))
			told(t, l, m)
		}
	}
}

func TestPicksThatChangeWhileTheyAreTaken(t *testing.T) {
	list := []int{0, 1, 1, 0, 1}
	l := loom.New()
	change := &asker{name: "changes", left: 4}
	change.do = func() { sample.Spoil(list) }
	add(t, l, change, 0)
	add(t, l, hand{states(4), 0}, 1)
	if n := l.Run(list...); n != 8 {
		t.Errorf("Run = %d; want 8", n)
	}
	same(t, "Turns", l.Turns(), 0, 1, 1, 0, 1, 0, 1, 0)
}

func TestTwoLoomsBesideOneAnother(t *testing.T) {
	w := states(3, 3)
	one, two := loom.New(), loom.New()
	add(t, one, hand{w, 0}, 0)
	add(t, two, hand{w, 1}, 0)
	// The same task has its number in each.
	add(t, two, hand{w, 0}, 1)
	if n, ok := one.Step(0); n != 0 || !ok {
		t.Errorf("Step = %d, %t", n, ok)
	}
	same(t, "Turns of the other one", two.Turns())
	if n, ok := two.Step(1); n != 1 || !ok || w[0].left != 1 {
		t.Errorf("Step = %d, %t; %d left", n, ok, w[0].left)
	}
	if n := two.Run(1); n != 4 || !one.Over() || !two.Over() {
		t.Errorf("Run = %d, Over %t and %t", n, one.Over(), two.Over())
	}
	if n, ok := one.Step(0); n != 0 || ok {
		t.Errorf("Step = %d, %t", n, ok)
	}
	same(t, "Turns", one.Turns(), 0)
	same(t, "Turns", two.Turns(), 1, 1, 0, 0, 0)
	if one.Steps() != 1 || two.Steps() != 5 {
		t.Errorf("Steps %d and %d", one.Steps(), two.Steps())
	}
}

func TestLoomsStandAlone(t *testing.T) {
	next := sample.Row(4)
	var looms []*loom.Loom
	var plains []*plain
	for range 4 {
		l, m := made(t, anyWorld(next, 7))
		looms, plains = append(looms, l), append(plains, m)
	}
	for range 200 {
		k := next(len(looms))
		if next(9) > 0 {
			stepOf(t, looms[k], plains[k], next(40)-20)
		} else {
			runOf(t, looms[k], plains[k], anyPicks(next, 3)...)
			looms[k], plains[k] = made(t, anyWorld(next, 7))
		}
		for i := range looms {
			told(t, looms[i], plains[i])
		}
	}
}
