package sample

import (
	"slices"
	"strconv"

	"reedbed/api"
)

// Item is one whose fields all tell its number.
func Item(n int) api.Item {
	x := api.Item{N: n, Buf: 3*n - 1, Rec: api.Record{N: n + 7, At: 2 * n, Text: "text " + strconv.Itoa(n)}, Err: api.Errno(n % 5)}
	for i := range n % 4 {
		x.Hits = append(x.Hits, api.Hit{From: n + i, To: 2*n + i})
	}
	return x
}

// Items are those of these numbers.
func Items(ns ...int) []api.Item {
	var all []api.Item
	for _, n := range ns {
		all = append(all, Item(n))
	}
	return all
}

// AnyItems are some with any fields, two of them the same.
func AnyItems() []api.Item {
	return []api.Item{
		{}, {N: -1, Buf: -1, Err: api.ErrSource}, {N: 7}, {N: 7}, {Err: -5}, {Rec: api.Record{N: -3, At: -2, Text: "\xff\x00\n"}}, {N: 1 << 62, Buf: -1 << 62, Hits: Hits(-1, -2)}, {Rec: api.Record{Text: string(Octets(5000))}},
	}
}

// SameItem: are two items the same?
func SameItem(x, y api.Item) bool {
	return x.N == y.N && x.Buf == y.Buf && x.Rec == y.Rec && x.Err == y.Err && slices.Equal(x.Hits, y.Hits)
}

// SameItems: are two lists of items the same?
func SameItems(all, other []api.Item) bool {
	return slices.EqualFunc(all, other, SameItem)
}

// Numbers are those that tell of items.
func Numbers(all []api.Item) []int {
	var ns []int
	for _, x := range all {
		ns = append(ns, x.N)
	}
	return ns
}
