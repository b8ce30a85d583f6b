// Package sample holds inputs that the tests of several layers share. No
// layer calls it.
package sample

import (
	"math"
	"slices"

	"reedbed/api"
)

// Strays are numbers that are no code points.
func Strays() []int {
	return []int{
		math.MinInt, math.MinInt32, -0x10000, -65, -1,
		0xd800, 0xdbff, 0xdc00, 0xdfff,
		0x110000, 0x200041, math.MaxInt32, 1<<32 + 65, math.MaxInt,
	}
}

// StrayKinds are numbers that are no encodings.
func StrayKinds() []int {
	return []int{math.MinInt, -3, -2, -1, 4, 5, 6, 7, 258, 259, 1<<32 + 2, 1<<32 + 3, math.MaxInt}
}

// Errors are all of the project's, but for OK.
func Errors() []api.Errno {
	return []api.Errno{
		api.ErrNil, api.ErrArg, api.ErrLong, api.ErrSource, api.ErrSink, api.ErrPanic, api.ErrCancel,
		api.ErrPattern, api.ErrBig, api.ErrClosed, api.ErrBusy, api.ErrNone, api.ErrMany,
	}
}

// Causes are some of any number, none of which is OK.
func Causes() []api.Errno {
	return append(Errors(),
		-1, -2, 3, 99, 128, 255, 256, 1<<16, 1<<31, 1<<32, 1<<32+12, -1<<32, math.MinInt, math.MaxInt,
	)
}

// Octets are n octets, those beside each other unlike.
func Octets(n int) []byte {
	b := make([]byte, n)
	for i := range b {
		b[i] = byte(i % 251)
	}
	return b
}

// Sizes are numbers about the ends of what a size of pieces may be.
func Sizes() []int {
	return []int{
		math.MinInt, math.MinInt32, -4096, -1, 0, 1, 2, 3, 7, 4095, 4096, 4097, 8192,
		1<<32 + 2, 1 << 40, math.MaxInt32, math.MaxInt,
	}
}

// Span are the numbers from 0 to ahead of n.
func Span(n int) []int {
	var list []int
	for i := range n {
		list = append(list, i)
	}
	return list
}

// Row is a row of numbers without a plain rule, each from 0 to ahead of what is
// asked; from the same start it is the same row.
func Row(start int) func(below int) int {
	x := uint64(start)
	return func(below int) int {
		x = x*6364136223846793005 + 1442695040888963407
		return int(x>>33) % below
	}
}

// Ranges are those of these ends, two by two.
func Ranges(ends ...int) []api.Range {
	var s []api.Range
	for i := 0; i < len(ends); i += 2 {
		s = append(s, api.Range{Lo: ends[i], Hi: ends[i+1]})
	}
	return s
}

// Each hands over all lists of those elements, up to a length. The list is
// lent: it changes behind each call.
func Each[E any](of []E, most int, do func(list []E)) {
	var list []E
	var grow func()
	grow = func() {
		do(list)
		if len(list) >= most {
			return
		}
		for _, e := range of {
			list = append(list, e)
			grow()
			list = list[:len(list)-1]
		}
	}
	grow()
}

// Pieces is a text cut behind each octet whose bit is set.
func Pieces[S string | []byte](text S, bits int) []S {
	var pieces []S
	from := 0
	for n := 1; n < len(text); n++ {
		if bits>>(n-1)&1 != 0 {
			pieces, from = append(pieces, text[from:n]), n
		}
	}
	return append(pieces, text[from:])
}

// WithRoom is a copy of s within a longer list: what lies behind it is 0x55.
func WithRoom[E byte | int](s []E) (whole, part []E) {
	return WithRoomOf(s, 0x55)
}

// WithRoomOf is a copy of s within a longer list: what lies behind it is e.
func WithRoomOf[E any](s []E, e E) (whole, part []E) {
	whole = slices.Concat(s, []E{e, e, e, e})
	return whole, whole[:len(s)]
}

// Spoil overwrites a list with its spare room.
func Spoil[E byte | int](s []E) {
	SpoilBy(s, 0x77)
}

// SpoilBy overwrites a list with its spare room by e.
func SpoilBy[E any](s []E, e E) {
	s = s[:cap(s)]
	for i := range s {
		s[i] = e
	}
}
