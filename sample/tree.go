package sample

import (
	"slices"

	"reedbed/api"
)

// Empty, Begin, End, Char, One, Cat, Alt and Rep make trees by hand.

func Empty() api.Node { return api.Node{Op: api.OpEmpty} }
func Begin() api.Node { return api.Node{Op: api.OpBegin} }
func End() api.Node   { return api.Node{Op: api.OpEnd} }

// Char is one of the ranges of these ends, two by two.
func Char(ends ...int) api.Node {
	return api.Node{Op: api.OpChar, Set: Ranges(ends...)}
}

// One is just that number.
func One(r int) api.Node { return Char(r, r) }

func Cat(kids ...api.Node) api.Node { return api.Node{Op: api.OpCat, Kids: kids} }
func Alt(kids ...api.Node) api.Node { return api.Node{Op: api.OpAlt, Kids: kids} }

func Rep(least, most int, kids ...api.Node) api.Node {
	return api.Node{Op: api.OpRep, Min: least, Max: most, Kids: kids}
}

// Grown are all trees about these, two by two or with a count.
func Grown(kids []api.Node) []api.Node {
	all := slices.Clone(kids)
	for _, kid := range kids {
		all = append(all, Rep(0, 0, kid), Rep(0, 1, kid), Rep(2, 2, kid), Rep(1, 3, kid), Rep(0, -1, kid), Rep(2, -1, kid))
		for _, other := range kids {
			all = append(all, Cat(kid, other), Alt(kid, other))
		}
	}
	return all
}

// EachOdd hands over trees of each Op, and of numbers that are none, with these
// numbers as counts and these kids, alone and below others.
func EachOdd(numbers []int, kids [][]api.Node, do func(n api.Node)) {
	a := One('a')
	for _, k := range kids {
		for op := -2; op <= 9; op++ {
			for _, least := range numbers {
				for _, most := range numbers {
					n := api.Node{Op: op, Set: Ranges(9, 1, 2, 2), Min: least, Max: most, Kids: k}
					for _, n := range []api.Node{n, Cat(n, a), Alt(n, n), Rep(2, 3, n), Rep(0, -1, n)} {
						do(n)
					}
				}
			}
		}
	}
}

// Tower is a pattern with so many counts about it, each behind parentheses.
func Tower(pattern string, counts ...string) string {
	for _, count := range counts {
		pattern = "(" + pattern + ")" + count
	}
	return pattern
}

// Times is a count so many times.
func Times(n int, count string) []string {
	return slices.Repeat([]string{count}, n)
}

// SameButLists: are two nodes the same, but for what their lists hold?
func SameButLists(a, b api.Node) bool {
	return a.Op == b.Op && a.Min == b.Min && a.Max == b.Max && len(a.Set) == len(b.Set) && len(a.Kids) == len(b.Kids)
}

// TreeLists are all of a tree's.
func TreeLists(n api.Node) (sets [][]api.Range, kids [][]api.Node) {
	sets, kids = [][]api.Range{n.Set}, [][]api.Node{n.Kids}
	for _, kid := range n.Kids {
		s, k := TreeLists(kid)
		sets, kids = append(sets, s...), append(kids, k...)
	}
	return sets, kids
}

// SpoilTree overwrites all lists of a tree, with their spare room.
func SpoilTree(n api.Node) {
	sets, kids := TreeLists(n)
	for _, s := range sets {
		SpoilBy(s, api.Range{Lo: 7, Hi: 8})
	}
	for _, k := range kids {
		SpoilBy(k, api.Node{Op: 9, Min: 9})
	}
}

// RoomyTree is a copy of a tree, each list of which has others behind it; stays
// tells whether none of all that was changed.
func RoomyTree(n api.Node) (roomy api.Node, stays func() bool) {
	var kids []api.Node
	var below []func() bool
	for _, kid := range n.Kids {
		copied, stays := RoomyTree(kid)
		kids, below = append(kids, copied), append(below, stays)
	}
	wholeSet, set := WithRoomOf(n.Set, api.Range{Lo: 3, Hi: 4})
	wholeKids, part := WithRoomOf(kids, api.Node{Op: 8})
	setBefore, kidsBefore := slices.Clone(wholeSet), slices.Clone(wholeKids)
	n.Set, n.Kids = set, part
	return n, func() bool {
		changed := slices.ContainsFunc(below, func(stays func() bool) bool { return !stays() })
		return !changed && slices.Equal(wholeSet, setBefore) && slices.EqualFunc(wholeKids, kidsBefore, SameButLists)
	}
}
