// Package code is layer 1: code points as octets, and as units of 16 bits.
package code

import (
	"math/bits"

	"reedbed/api"
)

const (
	greatest = 0x10ffff
	over     = 0x10000 // from here on a code point has two units

	firstUpper = 0xd800 // greater units: from here to ahead of firstLower
	firstLower = 0xdc00
	lastLower  = 0xdfff

	six = 0x3f  // the bits of an octet behind the first one
	ten = 0x3ff // the bits of one unit of two
)

// Is: is r a code point?
func Is(r int) bool {
	return 0 <= r && r <= greatest && !(firstUpper <= r && r <= lastLower)
}

// Size is how many octets r has; 0 if it is no code point.
func Size(r int) int {
	switch {
	case !Is(r):
		return 0
	case r < 0x80:
		return 1
	case r < 0x800:
		return 2
	case r < over:
		return 3
	}
	return 4
}

// Put are the octets of r; those of Wrong if it is no code point.
func Put(r int) []byte {
	r = sound(r)
	n := Size(r)
	b := make([]byte, n)
	switch n {
	case 4:
		b[3] = behind(r)
		r >>= 6
		fallthrough
	case 3:
		b[2] = behind(r)
		r >>= 6
		fallthrough
	case 2:
		b[1] = behind(r)
		r >>= 6
		b[0] = ones(n)
		fallthrough
	default:
		b[0] |= byte(r)
	}
	return b
}

// Get is the code point whose octets stand at the beginning of b, and how
// many they are; Wrong and 1 if none does, Wrong and 0 if b is empty.
func Get(b []byte) (int, int) {
	if len(b) == 0 {
		return api.Wrong, 0
	}
	n := length(b[0])
	if n == 0 || n > len(b) {
		return api.Wrong, 1
	}
	// The size tells apart what is no code point, and what has octets of
	// its own that are fewer.
	r, ok := gather(b[:n], n)
	if !ok || Size(r) != n {
		return api.Wrong, 1
	}
	return r, n
}

// Open: is b not a code point's octets, but could be with more behind?
func Open(b []byte) bool {
	if len(b) == 0 {
		return true
	}
	n := length(b[0])
	if n <= len(b) {
		return false
	}
	r, ok := gather(b, n)
	if !ok {
		return false
	}
	// What the missing octets can bring lies between all bits 0 and all
	// bits 1. No row of code points of one size lies within such a span
	// without holding one of its ends.
	missing := 6 * (n - len(b))
	least := r << missing
	most := least | (1<<missing - 1)
	return Size(least) == n || Size(most) == n
}

// Units are the units of r; that of Wrong if it is no code point.
func Units(r int) []int {
	r = sound(r)
	if r < over {
		return []int{r}
	}
	r -= over
	return []int{firstUpper | r>>10, firstLower | r&ten}
}

// Join is the code point whose units stand at the beginning of us, and how
// many they are; Wrong and 1 if none does, Wrong and 0 if there are none.
func Join(us ...int) (int, int) {
	switch {
	case len(us) == 0:
		return api.Wrong, 0
	case us[0] < over && Is(us[0]):
		return us[0], 1
	case len(us) > 1 && upper(us[0]) && lower(us[1]):
		return over + (us[0]-firstUpper)<<10 + us[1] - firstLower, 2
	}
	return api.Wrong, 1
}

// sound is r, or Wrong in place of what is no code point.
func sound(r int) int {
	if Is(r) {
		return r
	}
	return api.Wrong
}

// behind is an octet that isn't the first one, with the lowest six bits of r.
func behind(r int) byte {
	return byte(r&six | 0x80)
}

// ones is a first octet of n, as yet without bits of its code point.
func ones(n int) byte {
	return byte(0xff << (8 - n))
}

// length is how many octets a first one announces; 0 if it can't be a first
// one.
func length(first byte) int {
	switch n := bits.LeadingZeros8(^first); n {
	case 0:
		return 1
	case 2, 3, 4:
		return n
	}
	return 0
}

// gather puts the bits of b together, which has at most the n octets that its
// first one announces; false if one behind the first can't stand there.
func gather(b []byte, n int) (int, bool) {
	r := int(b[0] & (0xff >> n))
	for _, c := range b[1:] {
		if c>>6 != 2 {
			return 0, false
		}
		r = r<<6 | int(c&six)
	}
	return r, true
}

// upper: is u a greater unit, of two?
func upper(u int) bool {
	return firstUpper <= u && u < firstLower
}

// lower: is u a lower unit, of two?
func lower(u int) bool {
	return firstLower <= u && u <= lastLower
}
