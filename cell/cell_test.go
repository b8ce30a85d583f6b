package cell_test

import (
	"math"
	"strings"
	"testing"

	"reedbed/api"
	"reedbed/cell"
	"reedbed/sample"
)

// report is what a cell is told once.
type report struct {
	cause api.Errno
	note  string
	when  int
}

// plain is a cell by the document's words: all that it was told, one behind the
// other.
type plain []report

// counted are the first report of a cause, and how many there were.
func (m plain) counted() (first report, reports int) {
	for _, r := range m {
		if r.cause == api.OK {
			continue
		}
		if reports == 0 {
			first = r
		}
		reports++
	}
	return first, reports
}

// tell tells a cell something, which it has to take as the first cause, or not.
func tell(t *testing.T, c *cell.Cell, r report, want bool) {
	t.Helper()
	if first := c.Report(r.cause, r.note, r.when); first != want {
		t.Fatalf("Report(%d, %q, %d) = %v; want %v", r.cause, r.note, r.when, first, want)
	}
}

// told holds all that a cell tells against its first cause, and how many there
// were.
func told(t *testing.T, c *cell.Cell, first report, reports int) {
	t.Helper()
	// Asking changes nothing.
	for range 2 {
		if got := (report{c.Cause(), c.Note(), c.When()}); got != first || c.Reports() != reports {
			t.Fatalf("%d: %d, %q, %d; want %d: %d, %q, %d", c.Reports(), got.cause, got.note, got.when, reports, first.cause, first.note, first.when)
		}
	}
}

// follow tells a cell some reports, and holds each answer, and what the cell
// tells behind it, against the plain list.
func follow(t *testing.T, c *cell.Cell, m *plain, reports ...report) {
	t.Helper()
	for _, r := range reports {
		_, ahead := m.counted()
		*m = append(*m, r)
		first, reports := m.counted()
		tell(t, c, r, ahead == 0 && reports == 1)
		told(t, c, first, reports)
	}
}

// notes are some texts, the empty one among them.
func notes() []string {
	return append(sample.Strange(), "", "x", "boom", " ", ": ", "a: b: c", ":", "reedbed: error 13", "reedbed: error 13: boom", "a\nb\r\n", "\x00", "%w %d %%", strings.Repeat("long: ", 1<<12))
}

// whens are some numbers, up to the ends.
func whens() []int {
	return []int{math.MinInt, math.MinInt + 1, -1 << 32, -1, 0, 1, 3, 1 << 32, math.MaxInt - 1, math.MaxInt}
}

// P16.1

func TestANewCell(t *testing.T) {
	c := cell.New()
	if c == nil {
		t.Fatal("New: nil")
	}
	told(t, c, report{}, 0)
	if c.Cause() != api.OK || c.Note() != "" || c.When() != 0 || c.Reports() != 0 {
		t.Errorf("%d, %q, %d, %d; want OK, nothing, 0, 0", c.Cause(), c.Note(), c.When(), c.Reports())
	}
}

func TestReportOfTheExample(t *testing.T) {
	c := cell.New()
	tell(t, c, report{api.ErrSink, "x", 3}, true)
	tell(t, c, report{api.ErrCancel, "", 4}, false)
	told(t, c, report{api.ErrSink, "x", 3}, 2)
}

func TestReportOfOK(t *testing.T) {
	c := cell.New()
	for _, note := range notes() {
		for _, when := range whens() {
			tell(t, c, report{api.OK, note, when}, false)
			told(t, c, report{}, 0)
		}
	}
	// No cause yet: the first one is still taken.
	first := report{api.ErrPanic, "boom", 7}
	tell(t, c, first, true)
	for _, note := range notes() {
		for _, when := range whens() {
			tell(t, c, report{api.OK, note, when}, false)
			told(t, c, first, 1)
		}
	}
	tell(t, c, report{api.ErrSink, "y", 8}, false)
	tell(t, c, report{api.OK, "z", 9}, false)
	told(t, c, first, 2)
}

func TestTheFirstCause(t *testing.T) {
	for _, cause := range sample.Causes() {
		for _, note := range notes() {
			for _, when := range whens() {
				first := report{cause, note, when}
				c := cell.New()
				tell(t, c, first, true)
				told(t, c, first, 1)
			}
		}
	}
}

func TestLaterCauses(t *testing.T) {
	for _, first := range []report{
		{api.ErrSink, "x", 3}, {api.ErrSink, "", 0}, {-1, "", 0}, {99, "y", -1}, {api.ErrNil, "", math.MinInt}, {math.MaxInt, "z", math.MaxInt},
	} {
		c := cell.New()
		tell(t, c, first, true)
		reports := 1
		later := func(r report) {
			reports++
			tell(t, c, r, false)
			told(t, c, first, reports)
		}
		later(first)
		later(report{first.cause, "other", first.when})
		later(report{first.cause, "", 0})
		later(report{first.cause, first.note, first.when - 1})
		for _, cause := range sample.Causes() {
			for _, when := range whens() {
				later(report{cause, "", when})
				later(report{cause, "later", when})
				later(report{cause, first.note, when})
			}
		}
	}
}

func TestEachCauseBehindEachOther(t *testing.T) {
	for _, first := range sample.Causes() {
		for _, second := range sample.Causes() {
			var m plain
			follow(t, cell.New(), &m, report{first, "first", 1}, report{second, "second", 2}, report{first, "third", 3})
		}
	}
}

func TestAllShortWays(t *testing.T) {
	some := []report{
		{api.OK, "", 0}, {api.OK, "ok", 5}, {api.ErrSink, "", 0}, {api.ErrSink, "x", 3}, {api.ErrCancel, "", 4}, {api.ErrCancel, "x", -3}, {-1, "y", 0},
	}
	sample.Each(some, 5, func(reports []report) {
		var m plain
		follow(t, cell.New(), &m, reports...)
	})
}

func TestLongRows(t *testing.T) {
	causes, texts, times := append(sample.Causes(), api.OK), notes(), whens()
	for start := range 40 {
		next := sample.Row(start)
		c, m := cell.New(), plain{}
		for range start % 4 {
			follow(t, c, &m, report{api.OK, texts[next(len(texts))], times[next(len(times))]})
		}
		for range 300 {
			follow(t, c, &m, report{causes[next(len(causes))], texts[next(len(texts))], times[next(len(times))]})
		}
	}
}

func TestManyReports(t *testing.T) {
	c := cell.New()
	first := report{api.ErrSource, "first", -7}
	tell(t, c, first, true)
	const many = 1 << 20
	for i := range many {
		if c.Report(api.Errno(i+1), "later", i) {
			t.Fatalf("the cause %d behind the first one is taken", i+1)
		}
	}
	told(t, c, first, many+1)
}

func TestTwoCellsBesideOneAnother(t *testing.T) {
	one, two := cell.New(), cell.New()
	first := report{api.ErrSink, "one", 1}
	tell(t, one, first, true)
	told(t, two, report{}, 0)
	other := report{api.ErrPanic, "two", 2}
	tell(t, two, other, true)
	tell(t, two, report{api.ErrCancel, "later", 3}, false)
	told(t, one, first, 1)
	told(t, two, other, 2)
	told(t, cell.New(), report{}, 0)
}

func TestCellsStandAlone(t *testing.T) {
	causes, texts := append(sample.Causes(), api.OK, api.OK, api.OK), notes()
	var cells [4]*cell.Cell
	var plains [4]plain
	for i := range cells {
		cells[i] = cell.New()
	}
	next := sample.Row(16)
	for k := range 400 {
		i := next(len(cells))
		follow(t, cells[i], &plains[i], report{causes[next(len(causes))], texts[next(len(texts))], k})
		for j, c := range cells {
			first, reports := plains[j].counted()
			told(t, c, first, reports)
		}
	}
}
