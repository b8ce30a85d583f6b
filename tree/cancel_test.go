package tree_test

import (
	"slices"
	"testing"

	"reedbed/api"
	"reedbed/sample"
	"reedbed/tree"
)

// cancel gives a node a cause; so many have to turn.
func cancel(t *testing.T, x *tree.Tree, n int, cause api.Errno, want int) {
	t.Helper()
	if turned, err := x.Cancel(n, cause); turned != want || err != api.OK {
		t.Fatalf("Cancel(%d, %v) = %d, %v; want %d", n, cause, turned, err, want)
	}
}

// notCancelled gives a node a cause, which a tree has to refuse.
func notCancelled(t *testing.T, x *tree.Tree, n int, cause api.Errno) {
	t.Helper()
	if turned, err := x.Cancel(n, cause); turned != 0 || err != api.ErrArg {
		t.Fatalf("Cancel(%d, %v) = %d, %v; want 0, ErrArg", n, cause, turned, err)
	}
}

// causes holds those of all nodes against these.
func causes(t *testing.T, x *tree.Tree, want ...api.Errno) {
	t.Helper()
	var all []api.Errno
	for n := range x.Size() {
		all = append(all, x.Cause(n))
	}
	if !slices.Equal(all, want) {
		t.Fatalf("Causes %d; want %d", all, want)
	}
}

// P15.2

func TestCancelOfTheExample(t *testing.T) {
	x, _ := grown(t, 0, 1)
	cancel(t, x, 1, api.ErrSink, 2)
	causes(t, x, api.OK, api.ErrSink, api.ErrSink)
}

func TestCancelOfEach(t *testing.T) {
	// 0: 1, 2; 1: 3, 4; 3: 5.
	for n, want := range [][]api.Errno{
		{9, 9, 9, 9, 9, 9}, {0, 9, 0, 9, 9, 9}, {0, 0, 9, 0, 0, 0}, {0, 0, 0, 9, 0, 9}, {0, 0, 0, 0, 9, 0}, {0, 0, 0, 0, 0, 9},
	} {
		x, m := grown(t, 0, 0, 1, 1, 3)
		turned := 0
		for _, cause := range want {
			turned += int(cause) / 9
		}
		cancel(t, x, n, 9, turned)
		causes(t, x, want...)
		m.act(deed{'c', n, 9})
		told(t, x, m)
		for _, k := range sample.Span(6) {
			if want[k] == 9 {
				// It, and all below it, have one.
				follow(t, x, m, deed{'c', k, api.ErrSink})
				causes(t, x, want...)
			}
		}
	}
}

func TestCancelAboveThoseThatHaveOne(t *testing.T) {
	// 0: 1, 2; 1: 3, 4, 5; 4: 6.
	x, _ := grown(t, 0, 0, 1, 1, 1, 4)
	cancel(t, x, 3, 3, 1)
	cancel(t, x, 6, 6, 1)
	causes(t, x, 0, 0, 0, 3, 0, 0, 6)
	// All below it have one.
	cancel(t, x, 4, 4, 1)
	causes(t, x, 0, 0, 0, 3, 4, 0, 6)
	// Some below it have one.
	cancel(t, x, 1, 1, 2)
	causes(t, x, 0, 1, 0, 3, 4, 1, 6)
	// None below it hasn't.
	cancel(t, x, 1, 2, 0)
	cancel(t, x, 0, 7, 2)
	causes(t, x, 7, 1, 7, 3, 4, 1, 6)
	for n := range 7 {
		cancel(t, x, n, 8, 0)
	}
	causes(t, x, 7, 1, 7, 3, 4, 1, 6)
}

func TestCancelWhereAllBelowHaveOne(t *testing.T) {
	x, _ := grown(t, 0, 0, 0)
	for n := 1; n < 4; n++ {
		cancel(t, x, n, api.Errno(n), 1)
	}
	causes(t, x, 0, 1, 2, 3)
	cancel(t, x, 0, 4, 1)
	causes(t, x, 4, 1, 2, 3)
}

func TestCancelOfNone(t *testing.T) {
	for _, size := range []int{1, 2, 6, 255, 256} {
		for _, parents := range shapes(size - 1) {
			x, m := grown(t, parents...)
			for range 2 {
				for _, n := range noNodes(size) {
					notCancelled(t, x, n, api.ErrSink)
					notCancelled(t, x, n, -1)
					notCancelled(t, x, n, api.OK)
				}
				told(t, x, m)
				do(t, x, m, deed{'c', size / 2, api.ErrCancel})
			}
		}
	}
}

func TestCancelWithOK(t *testing.T) {
	for _, parents := range shapes(40) {
		x, m := grown(t, parents...)
		for _, n := range []int{40, 20, 0} {
			for k := range 41 {
				notCancelled(t, x, k, api.OK)
			}
			told(t, x, m)
			// Those that have a cause keep it then.
			do(t, x, m, deed{'c', n, api.ErrPanic})
		}
		for k := range 41 {
			notCancelled(t, x, k, api.OK)
		}
		told(t, x, m)
	}
}

func TestCausesOfAnyNumber(t *testing.T) {
	all := sample.Causes()
	for i, cause := range all {
		x, _ := grown(t, 0, 1, 1)
		cancel(t, x, 2, cause, 1)
		causes(t, x, 0, 0, cause, 0)
		other := all[(i+1)%len(all)]
		cancel(t, x, 2, other, 0)
		cancel(t, x, 1, other, 2)
		causes(t, x, 0, other, cause, other)
		cancel(t, x, 0, cause, 1)
		add(t, x, 2, 4)
		add(t, x, 3, 5)
		causes(t, x, cause, other, cause, other, cause, other)
	}
}

func TestCancelOfALine(t *testing.T) {
	for _, size := range []int{1, 2, 3, 100, 255, 256} {
		for _, n := range []int{0, 1, size / 2, size - 2, size - 1} {
			if n < 0 || n >= size {
				continue
			}
			x, m := grown(t, line(size-1)...)
			cancel(t, x, n, api.ErrSink, size-n)
			m.act(deed{'c', n, api.ErrSink})
			told(t, x, m)
			follow(t, x, m, deed{'c', size - 1, api.ErrPanic}, deed{'c', n / 2, api.ErrPanic}, deed{'c', 0, api.ErrCancel})
		}
	}
}

func TestCancelUpALine(t *testing.T) {
	x, _ := grown(t, line(255)...)
	for n := 255; n >= 0; n-- {
		cancel(t, x, n, api.Errno(n+1), 1)
	}
	for n := range 256 {
		if x.Cause(n) != api.Errno(n+1) {
			t.Errorf("Cause(%d) %v; want %d", n, x.Cause(n), n+1)
		}
	}
}

func TestCancelOfAWideTree(t *testing.T) {
	for _, size := range []int{2, 3, 100, 256} {
		x, m := grown(t, wide(size-1)...)
		for n := 1; n < size; n += 2 {
			cancel(t, x, n, api.Errno(n), 1)
			m.act(deed{'c', n, api.Errno(n)})
		}
		told(t, x, m)
		// The root, and every other one below it.
		cancel(t, x, 0, -1, 1+(size-1)/2)
		m.act(deed{'c', 0, -1})
		told(t, x, m)
	}
}

// P15.1 to P15.3

func TestTwoCausesInEachTree(t *testing.T) {
	eachTree(6, func(parents []int) {
		size := len(parents) + 1
		for first := range size {
			for second := range size {
				x, m := grown(t, parents...)
				follow(t, x, m, deed{'c', first, api.ErrSink}, deed{'c', second, api.ErrPanic})
				for n := range size {
					follow(t, x, m, deed{kind: 'a', n: n})
				}
				follow(t, x, m, deed{'c', first, api.ErrCancel}, deed{'c', 0, api.ErrCancel})
			}
		}
	})
}

func TestAllShortWays(t *testing.T) {
	var deeds []deed
	for n := -1; n < 4; n++ {
		deeds = append(deeds, deed{kind: 'a', n: n}, deed{'c', n, api.ErrSink})
	}
	deeds = append(deeds, deed{'c', 0, api.OK}, deed{'c', 1, api.ErrPanic})
	for _, parents := range [][]int{nil, {0}, {0, 0}, {0, 1}, {0, 1, 0}} {
		sample.Each(sample.Span(len(deeds)), 4, func(picks []int) {
			x, m := grown(t, parents...)
			var way []deed
			for _, k := range picks {
				way = append(way, deeds[k])
			}
			do(t, x, m, way...)
			// What it tells behind the beginnings of the way was seen at these.
			told(t, x, m)
		})
	}
}

func TestLongWays(t *testing.T) {
	all := sample.Causes()
	for _, kinds := range []string{"a", "aaaaaaac", "aaaaaaaaaaaaaaaaaaaaaaaaaaaaaac", "aac", "ac", "accccc"} {
		for start := range 3 {
			next := sample.Row(100*start + len(kinds))
			x, m := tree.New(), root()
			for range 600 {
				// At times none, below 0 or above all.
				d := deed{kind: kinds[next(len(kinds))], n: next(x.Size()+2) - 1}
				if k := next(len(all) + 1); d.kind == 'c' && k < len(all) {
					d.cause = all[k]
				}
				follow(t, x, m, d)
			}
		}
	}
}

func TestLateCausesFarDown(t *testing.T) {
	for _, parents := range shapes(255) {
		x, m := grown(t, parents...)
		next := sample.Row(len(parents))
		for k := range 60 {
			// From far down upwards: so some turn at nearly each one.
			n := next(256-4*k) % 256
			follow(t, x, m, deed{'c', n, api.Errno(k + 1)})
		}
		follow(t, x, m, deed{'c', 0, -1}, deed{'c', 0, -2})
	}
}

// P15.3

func TestACauseStays(t *testing.T) {
	x, m := grown(t, 0, 1, 1, 2)
	do(t, x, m, deed{'c', 2, api.ErrPanic})
	next := sample.Row(3)
	for range 2000 {
		d := deed{kind: "ac"[next(2)], n: next(8) - 1, cause: api.Errno(next(30) - 10)}
		do(t, x, m, d)
		if x.Cause(2) != api.ErrPanic || x.Cause(4) != api.ErrPanic {
			t.Fatalf("Causes %v, %v behind %v", x.Cause(2), x.Cause(4), d)
		}
	}
	told(t, x, m)
}

func TestWhatIsNotBelowIsNotTurned(t *testing.T) {
	for _, parents := range shapes(255) {
		for n := range 256 {
			x, m := grown(t, parents...)
			turned, err := x.Cancel(n, api.ErrSink)
			if err != api.OK {
				t.Fatal(err)
			}
			for k := range 256 {
				under := k == n || slices.Contains(m.above(k), n)
				if under {
					turned--
				}
				if has := x.Cause(k) != api.OK; has != under {
					t.Fatalf("%d, behind Cancel(%d): Cause(%d) %v", parents, n, k, x.Cause(k))
				}
			}
			if turned != 0 {
				t.Fatalf("%d: Cancel(%d) answers %d too many", parents, n, turned)
			}
		}
	}
}

func TestRefusedCallsChangeNothing(t *testing.T) {
	for _, parents := range shapes(255) {
		x, m := grown(t, parents...)
		do(t, x, m, deed{'c', 128, api.ErrSink})
		for _, d := range []deed{
			{'a', -1, 0}, {'a', 0, 0}, {'a', 128, 0}, {'a', 255, 0}, {'a', 256, 0}, {'c', -1, 12}, {'c', 256, 12}, {'c', -1, 0}, {'c', 256, 0}, {'c', 0, 0}, {'c', 128, 0}, {'c', 255, 0},
		} {
			if n, err := act(x, d); n != 0 || err == api.OK {
				t.Errorf("%v is taken: %d", d, n)
			}
			told(t, x, m)
		}
	}
}

func TestBelowIsNewMemory(t *testing.T) {
	for _, parents := range shapes(60) {
		x, m := grown(t, parents...)
		for n := range 61 {
			first, second := x.Below(n), x.Below(n)
			sample.Spoil(first)
			if want := m.below()[n]; !slices.Equal(second, want) {
				t.Fatalf("two answers share: Below(%d) is now %d; want %d", n, second, want)
			}
			slices.Reverse(second)
			told(t, x, m)
		}
		// Neither the marks nor what is added hang on answers.
		follow(t, x, m, deed{'c', 7, api.ErrSink}, deed{kind: 'a', n: 7}, deed{'c', 0, api.ErrCancel}, deed{kind: 'a', n: 3})
	}
}

func TestBelowStaysBehindLaterCalls(t *testing.T) {
	x, m := grown(t, 0, 1)
	next := sample.Row(11)
	var answers, wants [][]int
	for range 200 {
		for n := range 3 {
			answers, wants = append(answers, x.Below(n)), append(wants, m.below()[n])
		}
		d := deed{kind: "aaaac"[next(5)], n: next(x.Size()), cause: api.ErrSink}
		do(t, x, m, d)
	}
	for k, all := range answers {
		if !slices.Equal(all, wants[k]) {
			t.Fatalf("answer %d is now %d; want %d", k, all, wants[k])
		}
	}
}

func TestBelowOfNoneIsNewMemory(t *testing.T) {
	x, m := grown(t, 0, 0)
	for _, n := range []int{1, 2, 3, -1} {
		sample.Spoil(x.Below(n))
		told(t, x, m)
	}
}

func TestAskingChangesNothing(t *testing.T) {
	x, m := grown(t, mixed(30, 5)...)
	for range 5 {
		told(t, x, m)
	}
	follow(t, x, m, deed{'c', 3, api.ErrSink}, deed{kind: 'a', n: 3})
	for range 5 {
		told(t, x, m)
	}
}

func TestTreesStandAlone(t *testing.T) {
	var trees []*tree.Tree
	var plains []*plain
	for k := range 4 {
		x, m := grown(t, mixed(5*k, k)...)
		trees, plains = append(trees, x), append(plains, m)
	}
	next := sample.Row(21)
	for k := range 400 {
		i := next(len(trees))
		d := deed{kind: "aaac"[next(4)], n: next(trees[i].Size() + 1), cause: api.Errno(k)}
		do(t, trees[i], plains[i], d)
		for j, x := range trees {
			told(t, x, plains[j])
		}
	}
}

func TestTwoTreesBesideOneAnother(t *testing.T) {
	one, two := tree.New(), tree.New()
	add(t, one, 0, 1)
	cancel(t, one, 0, api.ErrSink, 2)
	if two.Size() != 1 || two.Cause(0) != api.OK {
		t.Errorf("the other one has Size %d, Cause %v", two.Size(), two.Cause(0))
	}
	add(t, two, 0, 1)
	cancel(t, two, 1, api.ErrPanic, 1)
	causes(t, one, api.ErrSink, api.ErrSink)
	causes(t, two, api.OK, api.ErrPanic)
	causes(t, tree.New(), api.OK)
}
