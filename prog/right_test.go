package prog_test

import (
	"math"
	"slices"
	"testing"

	"reedbed/api"
	"reedbed/prog"
	"reedbed/sample"
)

// ways are how many of X and Y an instruction uses, by its Op; those that are none
// aren't among them.
func ways() map[int]int {
	return map[int]int{api.InMatch: 0, api.InChar: 1, api.InBegin: 1, api.InEnd: 1, api.InSplit: 2}
}

// otherOps are numbers that are no instruction's.
func otherOps() []int {
	return []int{math.MinInt, -1 << 32, -4, -3, -2, -1, 5, 6, 7, 1 << 32, 1<<32 + 1, 1<<32 + 2, 1<<32 + 4, math.MaxInt}
}

// isRight asks whether a program is right.
func isRight(t *testing.T, want bool, p ...api.Inst) {
	t.Helper()
	if right := prog.Right(p); right != want {
		t.Errorf("Right(%v) = %t", p, right)
	}
}

func TestRightOfNone(t *testing.T) {
	isRight(t, false)
	isRight(t, false, []api.Inst{}...)
	isRight(t, false, []api.Inst{{Op: api.InMatch}}[:0]...)
}

// TestRight: each Op, with X and Y at and beside each end, in programs of one
// instruction and of more, at each place in them.
func TestRight(t *testing.T) {
	for n := 1; n <= 4; n++ {
		numbers := []int{math.MinInt, -1 << 32, -n, -2, -1, 0, 1, 2, n - 1, n, n + 1, 1 << 32, 1<<32 + n - 1, math.MaxInt}
		for at := range n {
			p := slices.Repeat([]api.Inst{{Op: api.InMatch}}, n)
			for _, x := range numbers {
				for _, y := range numbers {
					for op, uses := range ways() {
						p[at] = api.Inst{Op: op, X: x, Y: y}
						isRight(t, (uses < 1 || x >= 0 && x < n) && (uses < 2 || y >= 0 && y < n), p...)
					}
				}
			}
			for _, op := range otherOps() {
				p[at] = api.Inst{Op: op}
				isRight(t, false, p...)
			}
		}
	}
}

// TestRightOfAllShortPrograms: of one and two instructions, and of three whose
// numbers are at or beside the ends.
func TestRightOfAllShortPrograms(t *testing.T) {
	insts := func(numbers ...int) []api.Inst {
		var all []api.Inst
		for op := -1; op <= 5; op++ {
			for _, x := range numbers {
				for _, y := range numbers {
					all = append(all, api.Inst{Op: op, X: x, Y: y})
				}
			}
		}
		return all
	}
	by := func(p []api.Inst) bool {
		for _, in := range p {
			uses, ok := ways()[in.Op]
			if !ok || !slices.Contains([]int{0, 1, 2}[:len(p)], in.X) && uses > 0 || !slices.Contains([]int{0, 1, 2}[:len(p)], in.Y) && uses > 1 {
				return false
			}
		}
		return len(p) > 0
	}
	ask := func(p []api.Inst) { isRight(t, by(p), p...) }
	sample.Each(insts(-1, 0, 1, 2), 2, ask)
	sample.Each(insts(2, 3), 3, ask)
}

// TestRightOfOthers: what isn't asked for doesn't count.
func TestRightOfOthers(t *testing.T) {
	match := api.Inst{Op: api.InMatch}
	isRight(t, true, match)
	isRight(t, true, api.Inst{Op: api.InMatch, X: -1, Y: 9, Set: sample.Ranges(5, 1)})
	isRight(t, true, match, match, match)
	// No end is met from the beginning, or none is there.
	isRight(t, true, api.Inst{Op: api.InSplit}, match)
	isRight(t, true, api.Inst{Op: api.InChar})
	isRight(t, true, api.Inst{Op: api.InBegin}, api.Inst{Op: api.InEnd, X: 1})
	// Any sets, on any instruction.
	for op := range ways() {
		for _, s := range [][]api.Range{nil, {}, sample.Ranges('a', 'z'), sample.Ranges(9, 3, 3, 3, 3, 3), sample.Ranges(math.MinInt, math.MaxInt)} {
			isRight(t, true, api.Inst{Op: op, Set: s}, match)
			isRight(t, true, match, api.Inst{Op: op, Set: s, X: 1, Y: 1})
		}
	}
	// Any length.
	long := slices.Repeat([]api.Inst{{Op: api.InSplit, X: 69999, Y: 0}}, 70000)
	isRight(t, true, long...)
	long[69999].Y = 70000
	isRight(t, false, long...)
	isRight(t, false, long[:69999]...)
}
