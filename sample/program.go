package sample

import (
	"slices"

	"reedbed/api"
)

// Places are some of a text's, each as a bit.
type Places uint64

// At are these places.
func At(ats ...int) Places {
	var s Places
	for _, at := range ats {
		s |= 1 << at
	}
	return s
}

// InRanges: is a number in one of them?
func InRanges(s []api.Range, r int) bool {
	return slices.ContainsFunc(s, func(part api.Range) bool { return part.Lo <= r && r <= part.Hi })
}

// Points are a text's code points.
func Points(s string) []int {
	var text []int
	for _, r := range s {
		text = append(text, int(r))
	}
	return text
}

// ProgramEnds are a program's over a text from a place, met by all ways.
func ProgramEnds(p []api.Inst, text []int, from int) Places {
	var ends Places
	met := make([]Places, len(p)) // at which places each instruction was met
	var run func(i, at int)
	run = func(i, at int) {
		if met[i]&At(at) != 0 {
			return
		}
		met[i] |= At(at)
		switch in := p[i]; in.Op {
		case api.InMatch:
			ends |= At(at)
		case api.InChar:
			if at < len(text) && InRanges(in.Set, text[at]) {
				run(in.X, at+1)
			}
		case api.InSplit:
			run(in.X, at)
			run(in.Y, at)
		case api.InBegin:
			if at == 0 {
				run(in.X, at)
			}
		case api.InEnd:
			if at == len(text) {
				run(in.X, at)
			}
		}
	}
	run(0, from)
	return ends
}

// CopyProgram is a program with lists of its own.
func CopyProgram(p []api.Inst) []api.Inst {
	p = slices.Clone(p)
	for i := range p {
		p[i].Set = slices.Clone(p[i].Set)
	}
	return p
}

// SameProgram: are two programs the same?
func SameProgram(p, q []api.Inst) bool {
	return slices.EqualFunc(p, q, func(a, b api.Inst) bool {
		return a.Op == b.Op && a.X == b.X && a.Y == b.Y && slices.Equal(a.Set, b.Set)
	})
}

// SpoilProgram overwrites all lists of a program, with their spare room.
func SpoilProgram(p []api.Inst) {
	for _, in := range p {
		SpoilBy(in.Set, api.Range{Lo: 7, Hi: 8})
	}
	SpoilBy(p, api.Inst{Op: 9, X: -9})
}

// RoomyProgram is a copy of a program, each list of which has others behind it;
// stays tells whether none of all that was changed.
func RoomyProgram(p []api.Inst) (roomy []api.Inst, stays func() bool) {
	whole, part := WithRoomOf(p, api.Inst{Op: 9, X: -9})
	var sets, before [][]api.Range
	for i := range part {
		set, roomySet := WithRoomOf(p[i].Set, api.Range{Lo: 3, Hi: 4})
		part[i].Set = roomySet
		sets, before = append(sets, set), append(before, slices.Clone(set))
	}
	want := CopyProgram(whole)
	return part, func() bool {
		return SameProgram(whole, want) && slices.EqualFunc(sets, before, slices.Equal[[]api.Range])
	}
}
