// Package sample holds inputs that the tests of several layers share. No
// layer calls it.
package sample

import "math"

// Strays are numbers that are no code points.
func Strays() []int {
	return []int{
		math.MinInt, math.MinInt32, -0x10000, -65, -1,
		0xd800, 0xdbff, 0xdc00, 0xdfff,
		0x110000, 0x200041, math.MaxInt32, 1<<32 + 65, math.MaxInt,
	}
}

// Each hands over all lists of those octets, up to a length. The list is
// lent: it changes behind each call.
func Each(of []byte, most int, do func(b []byte)) {
	var b []byte
	var grow func()
	grow = func() {
		do(b)
		if len(b) >= most {
			return
		}
		for _, c := range of {
			b = append(b, c)
			grow()
			b = b[:len(b)-1]
		}
	}
	grow()
}
