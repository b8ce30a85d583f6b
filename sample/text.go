package sample

import (
	"math/bits"

	"reedbed/api"
)

// Texts are all of those octets, up to so many.
func Texts(octets string, most int) []string {
	var all []string
	Each([]byte(octets), most, func(s []byte) { all = append(all, string(s)) })
	return all
}

// Strange are texts with octets that are no code points', alone, within, and at
// the end, and with code points of all sizes.
func Strange() []string {
	return []string{
		"\xff", "\x80", "\xc3", "a\xff", "\xffa", "a\xffb", "\xff\xff", "\xe2\x82", "a\xe2\x82", "\xe2\x82a", "\xe2\x82\xac", "\xe2\x82\xac\xac", "\xf0\x9f\x98", "\xf0\x9f\x98\x80", "\xf0\x9f\x98\x80\x80", "a\xf0\x9f\x98\x80b\xf0\x9f",
		"\xc0\x80", "\xe0\x80\x80", "\xed\xa0\x80", "\xf4\x90\x80\x80", "\xf4\x8f\xbf\xbf", "\xc3\xc3\xa9\xa9", "\u00e9\ufffd\u20ac\U0001f600", "a\u00e9\u20ac\U0001f600\xff", "\x00\x7f\u0080\u07ff\u0800\uffff\U00010000",
	}
}

// TextPlaces are a text's, as the language reads it: what is no code point's is
// one octet alone there too.
func TextPlaces(text string) []int {
	var all []int
	for at := range text {
		all = append(all, at)
	}
	return append(all, len(text))
}

// Hits are those of these ends, two by two.
func Hits(ends ...int) []api.Hit {
	var all []api.Hit
	for i := 0; i < len(ends); i += 2 {
		all = append(all, api.Hit{From: ends[i], To: ends[i+1]})
	}
	return all
}

// Reading is what there is in a text of few code points: of each place, the
// greatest of the ends that a program has from there, met by all ways; below 0:
// none.
type Reading struct {
	places, ends []int
}

// Read reads a text plainly.
func Read(p []api.Inst, text string) Reading {
	places, points := TextPlaces(text), Points(text)
	found := Reading{places: places}
	for k := range places {
		end := -1
		if all := ProgramEnds(p, points, k); all != 0 {
			end = places[bits.Len64(uint64(all))-1]
		}
		found.ends = append(found.ends, end)
	}
	return found
}

// Longest is the end of the longest match from a place; false: there is none.
func (x Reading) Longest(at int) (int, bool) {
	for k, place := range x.places {
		if place == at && x.ends[k] >= 0 {
			return x.ends[k], true
		}
	}
	return 0, false
}

// First is the first match from a place on; false: there is none.
func (x Reading) First(from int) (api.Hit, bool) {
	for k, at := range x.places {
		if at >= from && x.ends[k] >= 0 {
			return api.Hit{From: at, To: x.ends[k]}, true
		}
	}
	return api.Hit{}, false
}

// All are all matches, as P11.2 says it.
func (x Reading) All() []api.Hit {
	var hits []api.Hit
	from, behind := 0, -1
	for {
		hit, ok := x.First(from)
		if !ok {
			return hits
		}
		if hit.From == hit.To && hit.From == behind {
			from++
			continue
		}
		hits = append(hits, hit)
		from, behind = hit.To, hit.To
	}
}
