package match

import (
	"slices"

	"reedbed/api"
	"reedbed/code"
	"reedbed/set"
)

// way is one from an instruction to another; by is which of both tells whether
// it is open.
type way struct {
	by, to int
}

// onward are the ways from each instruction, as the program goes on.
func onward(p []api.Inst) [][]way {
	ways := make([][]way, len(p))
	eachWay(p, func(from, to int) { ways[from] = append(ways[from], way{by: from, to: to}) })
	return ways
}

// back are the ways from each instruction to those that go on at it.
func back(p []api.Inst) [][]way {
	ways := make([][]way, len(p))
	eachWay(p, func(from, to int) { ways[to] = append(ways[to], way{by: from, to: from}) })
	return ways
}

// eachWay hands over all ways that a program goes on.
func eachWay(p []api.Inst, do func(from, to int)) {
	for i, in := range p {
		if in.Op != api.InMatch {
			do(i, in.X)
		}
		if in.Op == api.InSplit {
			do(i, in.Y)
		}
	}
}

// spot is an instruction that is met, and the place where the match that it is
// met in has its other end.
type spot struct {
	inst, far int
}

// walk goes over a text, place by place, onward or back. At each place it has
// the instructions that are met there, by all ways at once. Each has the better
// one of the other ends that it could have, the one further ahead in the text
// onward, further behind in it back: those that are better are met first.
type walk struct {
	p     []api.Inst
	text  string
	ways  [][]way
	at    int
	here  []spot // the better ones first
	last  []spot // those of the place ahead
	metAt []int  // the place where each instruction was met last
}

func newWalk(p []api.Inst, text string, ways [][]way, at int) *walk {
	return &walk{p: p, text: text, ways: ways, at: at, metAt: slices.Repeat([]int{none}, len(p))}
}

// step goes over one code point, to the place at its other side.
func (w *walk) step(to int) {
	r, _ := code.Get([]byte(w.text[min(w.at, to):max(w.at, to)]))
	w.at, w.here, w.last = to, w.last[:0], w.here
	for _, s := range w.last {
		for _, way := range w.ways[s.inst] {
			if in := w.p[way.by]; in.Op == api.InChar && set.Has(in.Set, r) {
				w.meet(way.to, s.far)
			}
		}
	}
}

// meet meets an instruction, and all that are met from it without a code point.
func (w *walk) meet(inst, far int) {
	next := len(w.here)
	w.add(inst, far)
	for ; next < len(w.here); next++ {
		for _, way := range w.ways[w.here[next].inst] {
			if w.isOpen(w.p[way.by].Op) {
				w.add(way.to, far)
			}
		}
	}
}

// add puts an instruction to those that are met here, if it isn't one of them.
func (w *walk) add(inst, far int) {
	if w.metAt[inst] != w.at {
		w.metAt[inst] = w.at
		w.here = append(w.here, spot{inst: inst, far: far})
	}
}

// isOpen: does what has that Op go on here without a code point?
func (w *walk) isOpen(op int) bool {
	switch op {
	case api.InSplit:
		return true
	case api.InBegin:
		return w.at == 0
	case api.InEnd:
		return w.at == len(w.text)
	}
	return false
}

// best is the best other end that one of those instructions has here; false: none
// of them is met.
func (w *walk) best(one func(inst int) bool) (int, bool) {
	i := slices.IndexFunc(w.here, func(s spot) bool { return one(s.inst) })
	if i < 0 {
		return 0, false
	}
	return w.here[i].far, true
}

// leave leaves all whose other end is worse: onward, behind that one.
func (w *walk) leave(far int) {
	w.here = slices.DeleteFunc(w.here, func(s spot) bool { return s.far > far })
}

func (w *walk) isMatch(inst int) bool {
	return w.p[inst].Op == api.InMatch
}

// matches are the instructions that are ends.
func (w *walk) matches() []int {
	var all []int
	for i := range w.p {
		if w.isMatch(i) {
			all = append(all, i)
		}
	}
	return all
}
