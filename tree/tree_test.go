package tree_test

import (
	"math"
	"slices"
	"testing"

	"reedbed/api"
	"reedbed/sample"
	"reedbed/tree"
)

// deed is one call that may change a tree.
type deed struct {
	kind  byte // a(dd), c(ancel)
	n     int
	cause api.Errno
}

// act does a deed to a tree.
func act(x *tree.Tree, d deed) (int, api.Errno) {
	if d.kind == 'a' {
		return x.Add(d.n)
	}
	return x.Cancel(d.n, d.cause)
}

// plain is a tree by the document's words: of each node the one above it, and
// its cause.
type plain struct {
	parents []int
	causes  []api.Errno
}

func root() *plain {
	return &plain{[]int{-1}, []api.Errno{api.OK}}
}

// above are all nodes above one, upwards.
func (m *plain) above(n int) []int {
	var all []int
	for up := m.parents[n]; up >= 0; up = m.parents[up] {
		all = append(all, up)
	}
	return all
}

// below is, of each node, what is below it.
func (m *plain) below() [][]int {
	all := make([][]int, len(m.parents))
	for n := range m.parents {
		for _, up := range m.above(n) {
			all[up] = append(all[up], n)
		}
	}
	return all
}

func (m *plain) act(d deed) (int, api.Errno) {
	switch size := len(m.parents); {
	case d.n < 0 || d.n >= size:
		return 0, api.ErrArg
	case d.kind == 'a' && size == 256:
		return 0, api.ErrBig
	case d.kind == 'a':
		m.parents, m.causes = append(m.parents, d.n), append(m.causes, m.causes[d.n])
		return size, api.OK
	case d.cause == api.OK:
		return 0, api.ErrArg
	}
	turned := 0
	for n, had := range m.causes {
		if had == api.OK && (n == d.n || slices.Contains(m.above(n), d.n)) {
			m.causes[n] = d.cause
			turned++
		}
	}
	return turned, api.OK
}

// do does deeds to a tree and to its plain reading, and holds what each answers
// against each other.
func do(t *testing.T, x *tree.Tree, m *plain, deeds ...deed) {
	t.Helper()
	for k, d := range deeds {
		want, wrong := m.act(d)
		if n, err := act(x, d); n != want || err != wrong {
			t.Fatalf("deed %d of %v: %d, %v; want %d, %v", k, deeds, n, err, want, wrong)
		}
	}
}

// follow does deeds like do, and holds behind each one what is told.
func follow(t *testing.T, x *tree.Tree, m *plain, deeds ...deed) {
	t.Helper()
	for _, d := range deeds {
		do(t, x, m, d)
		told(t, x, m)
	}
}

// told holds all that a tree tells against the plain reading.
func told(t *testing.T, x *tree.Tree, m *plain) {
	t.Helper()
	size := len(m.parents)
	if x.Size() != size {
		t.Fatalf("Size %d; want %d", x.Size(), size)
	}
	for n, below := range m.below() {
		if x.Parent(n) != m.parents[n] || x.Cause(n) != m.causes[n] {
			t.Fatalf("node %d of %d: Parent %d, Cause %v; want %d, %v", n, m.parents, x.Parent(n), x.Cause(n), m.parents[n], m.causes[n])
		}
		if all := x.Below(n); !slices.Equal(all, below) {
			t.Fatalf("Below(%d) of %d: %d; want %d", n, m.parents, all, below)
		}
	}
	for _, n := range noNodes(size) {
		if x.Parent(n) != -1 || x.Cause(n) != api.OK || len(x.Below(n)) != 0 {
			t.Fatalf("no node %d of %d: Parent %d, Cause %v, Below %d", n, size, x.Parent(n), x.Cause(n), x.Below(n))
		}
	}
}

// noNodes are numbers of no node of a tree of that size.
func noNodes(size int) []int {
	return slices.Concat(sample.Strays(), []int{
		-2, -size, -size - 1, -255, -256, size, size + 1, 2 * size, 256, 257, 511,
		1 << 32, 1<<32 + size - 1, -1 << 32, math.MinInt + 1, math.MaxInt - 1,
	})
}

// grown is a tree of a root and of nodes below these, and its plain reading.
func grown(t *testing.T, parents ...int) (*tree.Tree, *plain) {
	t.Helper()
	x, m := tree.New(), root()
	for _, up := range parents {
		do(t, x, m, deed{kind: 'a', n: up})
	}
	return x, m
}

// line are parents of nodes each of which is below the one ahead of it; wide
// are those of nodes that are all below the root.
func line(many int) []int { return sample.Span(many) }
func wide(many int) []int { return make([]int, many) }

// forked are parents of nodes two of which are below each.
func forked(many int) []int {
	all := sample.Span(many)
	for i := range all {
		all[i] /= 2
	}
	return all
}

// mixed are parents without a plain rule.
func mixed(many, start int) []int {
	next := sample.Row(start)
	var all []int
	for i := range many {
		all = append(all, next(i+1))
	}
	return all
}

// shapes are parents of so many nodes, in trees of some kinds.
func shapes(many int) [][]int {
	return [][]int{line(many), wide(many), forked(many), mixed(many, 1), mixed(many, 2)}
}

// eachTree hands over the parents of all trees of up to so many nodes.
func eachTree(most int, do func(parents []int)) {
	var grow func(parents []int)
	grow = func(parents []int) {
		do(parents)
		if len(parents)+1 < most {
			for up := range len(parents) + 1 {
				grow(append(slices.Clone(parents), up))
			}
		}
	}
	grow(nil)
}

// add adds a node, which a tree has to take as this number.
func add(t *testing.T, x *tree.Tree, parent, want int) {
	t.Helper()
	if n, err := x.Add(parent); n != want || err != api.OK {
		t.Fatalf("Add(%d) = %d, %v; want %d", parent, n, err, want)
	}
}

// notAdded adds a node, which a tree has to refuse.
func notAdded(t *testing.T, x *tree.Tree, parent int, want api.Errno) {
	t.Helper()
	if n, err := x.Add(parent); n != 0 || err != want {
		t.Fatalf("Add(%d) = %d, %v; want 0, %v", parent, n, err, want)
	}
}

// below holds what is below a node against these.
func below(t *testing.T, x *tree.Tree, n int, want ...int) {
	t.Helper()
	if all := x.Below(n); !slices.Equal(all, want) {
		t.Fatalf("Below(%d) = %d; want %d", n, all, want)
	}
}

// P15.1

func TestANewTree(t *testing.T) {
	x := tree.New()
	if x == nil {
		t.Fatal("New: nil")
	}
	for range 2 {
		if x.Size() != 1 || x.Parent(0) != -1 || x.Cause(0) != api.OK {
			t.Fatalf("Size %d, Parent(0) %d, Cause(0) %v; want 1, -1, OK", x.Size(), x.Parent(0), x.Cause(0))
		}
		below(t, x, 0)
		for _, n := range append(noNodes(1), 1, 2, 255) {
			if x.Parent(n) != -1 || x.Cause(n) != api.OK {
				t.Fatalf("Parent(%d) %d, Cause %v; want -1, OK", n, x.Parent(n), x.Cause(n))
			}
			below(t, x, n)
		}
	}
}

func TestAddOfTheExample(t *testing.T) {
	x := tree.New()
	add(t, x, 0, 1)
	add(t, x, 1, 2)
	if x.Size() != 3 || x.Parent(0) != -1 || x.Parent(1) != 0 || x.Parent(2) != 1 {
		t.Errorf("Size %d, Parents %d %d %d; want 3, -1 0 1", x.Size(), x.Parent(0), x.Parent(1), x.Parent(2))
	}
	below(t, x, 0, 1, 2)
	below(t, x, 1, 2)
	below(t, x, 2)
}

func TestAddBelowEach(t *testing.T) {
	eachTree(6, func(parents []int) {
		size := len(parents) + 1
		for up := range size {
			x, m := grown(t, parents...)
			add(t, x, up, size)
			if x.Parent(size) != up || x.Cause(size) != api.OK || x.Size() != size+1 {
				t.Fatalf("%d, behind Add(%d): Parent %d, Cause %v, Size %d", parents, up, x.Parent(size), x.Cause(size), x.Size())
			}
			m.act(deed{kind: 'a', n: up})
			told(t, x, m)
		}
	})
}

func TestBelowAlsoFurtherDown(t *testing.T) {
	// The line from node 2 goes on ahead of that from node 1.
	x, _ := grown(t, 0, 0, 2, 3, 1, 4, 5, 0, 2)
	below(t, x, 0, 1, 2, 3, 4, 5, 6, 7, 8, 9)
	below(t, x, 1, 5, 7)
	below(t, x, 2, 3, 4, 6, 9)
	below(t, x, 3, 4, 6)
	below(t, x, 4, 6)
	below(t, x, 5, 7)
	for n := 6; n < 10; n++ {
		below(t, x, n)
	}
}

func TestAddBelowNone(t *testing.T) {
	for _, size := range []int{1, 2, 3, 6, 254, 255, 256} {
		for _, parents := range shapes(size - 1) {
			x, m := grown(t, parents...)
			if size < 256 {
				do(t, x, m, deed{'c', size / 2, api.ErrSink})
			}
			for _, n := range noNodes(size) {
				// Of 256 nodes too: ErrArg is named ahead of ErrBig.
				notAdded(t, x, n, api.ErrArg)
			}
			told(t, x, m)
			if size < 256 {
				follow(t, x, m, deed{kind: 'a', n: size - 1})
			}
		}
	}
}

func TestAddUpToTheEnd(t *testing.T) {
	for _, parents := range shapes(255) {
		x, m := tree.New(), root()
		for i, up := range parents {
			add(t, x, up, i+1)
			m.act(deed{kind: 'a', n: up})
			told(t, x, m)
		}
		for n := range 256 {
			notAdded(t, x, n, api.ErrBig)
		}
		for _, n := range []int{-1, 256, 257, math.MinInt, math.MaxInt} {
			notAdded(t, x, n, api.ErrArg)
		}
		told(t, x, m)
		// It is as good as any other one.
		follow(t, x, m, deed{'c', 200, api.ErrSink}, deed{kind: 'a', n: 200}, deed{'c', 0, api.ErrCancel}, deed{kind: 'a', n: 0})
	}
}

func TestAddAt255And256(t *testing.T) {
	for _, last := range []int{0, 1, 100, 253, 254} {
		x, _ := grown(t, line(254)...)
		if x.Size() != 255 {
			t.Fatalf("Size %d; want 255", x.Size())
		}
		add(t, x, last, 255)
		notAdded(t, x, last, api.ErrBig)
		notAdded(t, x, 255, api.ErrBig)
		notAdded(t, x, 256, api.ErrArg)
		if x.Size() != 256 || x.Parent(255) != last || x.Parent(256) != -1 {
			t.Errorf("Size %d, Parents %d, %d; want 256, %d, -1", x.Size(), x.Parent(255), x.Parent(256), last)
		}
		below(t, x, 254, []int{255}[:max(0, last-253)]...)
	}
}

func TestAddBelowANodeWithACause(t *testing.T) {
	x, _ := grown(t, 0, 0, 1)
	if _, err := x.Cancel(1, api.ErrPanic); err != api.OK {
		t.Fatal(err)
	}
	for i, c := range []struct {
		parent int
		cause  api.Errno
	}{
		{1, api.ErrPanic}, {3, api.ErrPanic}, {4, api.ErrPanic}, {6, api.ErrPanic}, {0, api.OK}, {2, api.OK}, {8, api.OK}, {7, api.ErrPanic},
	} {
		n := 4 + i
		add(t, x, c.parent, n)
		if x.Cause(n) != c.cause || x.Cause(c.parent) != c.cause {
			t.Errorf("Cause(%d) %v, below %d with %v; want %v", n, x.Cause(n), c.parent, x.Cause(c.parent), c.cause)
		}
	}
}

func TestAddBelowOneOfCauseAndOne(t *testing.T) {
	eachTree(5, func(parents []int) {
		for n := range len(parents) + 1 {
			for up := range len(parents) + 1 {
				x, m := grown(t, parents...)
				// What is added takes the cause at once, and hands it on.
				follow(t, x, m, deed{'c', n, -3}, deed{kind: 'a', n: up}, deed{kind: 'a', n: len(parents) + 1}, deed{'c', up, api.ErrSink}, deed{kind: 'a', n: up})
			}
		}
	})
}

func TestBelowRises(t *testing.T) {
	for start := range 20 {
		parents := mixed(255, start)
		x, m := grown(t, parents...)
		for n := range 256 {
			all := x.Below(n)
			for i, k := range all {
				if k <= n || i > 0 && all[i-1] >= k || !slices.Contains(m.above(k), n) {
					t.Fatalf("%d: Below(%d) = %d", parents, n, all)
				}
			}
		}
		told(t, x, m)
	}
}
