package model_test

import (
	"fmt"
	"math"
	"slices"
	"strings"
	"testing"

	"reedbed/api"
	"reedbed/decode"
	"reedbed/engine"
	"reedbed/model"
	"reedbed/sample"
)

// job is one of a text and a pattern that is right, of which nothing falls; its
// records have at most 5 octets.
func job(data, pattern string, turns ...func(*api.Job)) api.Job {
	j := api.Job{
		Data: []byte(data), Fail: -1, Most: 5, Pattern: pattern, Bad: -1, Refuse: -1,
		Buffers: 1, Chunk: 8, Workers: 1, Ring: 1,
	}
	return with(j, turns...)
}

// with is a job with what those turn in it.
func with(j api.Job, turns ...func(*api.Job)) api.Job {
	for _, turn := range turns {
		turn(&j)
	}
	return j
}

// tells, failing, every and most turn a job's way of telling, where its source
// fails, which records are looked at, and how long they may be.
func tells(tell, before, after int) func(*api.Job) {
	return func(j *api.Job) { j.Tell, j.Before, j.After = tell, before, after }
}

func failing(at int) func(*api.Job) { return func(j *api.Job) { j.Fail = at } }
func every(n int) func(*api.Job)    { return func(j *api.Job) { j.Every = n } }
func most(n int) func(*api.Job)     { return func(j *api.Job) { j.Most = n } }

// name tells which job it is.
func name(j api.Job) string {
	data := j.Data
	j.Data = nil
	return fmt.Sprintf("%+v of %d octets, %.60q", j, len(data), data)
}

// text is a right job's by the document's words, octet by octet, and whether
// the source fails behind it.
func text(j api.Job) (string, bool) {
	d, _ := decode.New(j.Code)
	var told strings.Builder
	for i := range j.Data {
		if i == j.Fail {
			return told.String(), true
		}
		told.WriteString(d.Write(j.Data[i : i+1]))
	}
	if len(j.Data) == j.Fail {
		return told.String(), true
	}
	return told.String() + d.Close(), false
}

// records are a right job's by the document's words, and its error.
func records(j api.Job) ([]api.Record, api.Errno) {
	text, fails := text(j)
	if !fails {
		return sample.Records(j.Most, text)
	}
	all, err := sample.RecordsBegun(j.Most, text)
	if err == api.OK {
		err = api.ErrSource
	}
	return all, err
}

// hits are those of each of a right job's records.
func hits(j api.Job, all []api.Record) [][]api.Hit {
	e, _ := engine.Compile(j.Pattern)
	hits := make([][]api.Hit, len(all))
	for n := 0; n < len(all); n += max(j.Every, 1) {
		hits[n] = e.All(all[n].Text)
	}
	return hits
}

// comes is what a right job comes to by the document's words.
func comes(j api.Job) ([]string, api.Errno) {
	all, err := records(j)
	hits := hits(j, all)
	var lines []string
	records, found := 0, 0
	for i, r := range all {
		for _, h := range hits[i] {
			if j.Tell == api.TellFirst {
				return []string{fmt.Sprintf("%d:%s", r.N, r.Text)}, api.OK
			}
			lines = append(lines, fmt.Sprintf("%d:%d-%d:%s", r.N, h.From, h.To, r.Text[h.From:h.To]))
		}
		records, found = records+min(len(hits[i]), 1), found+len(hits[i])
	}
	switch {
	case j.Tell == api.TellContext:
		return context(j, all, hits), err
	case j.Tell == api.TellCount && err == api.OK:
		return []string{fmt.Sprintf("%d %d", records, found)}, err
	case j.Tell == api.TellCount:
		return nil, err
	}
	return lines, err
}

// context are the lines of records that have hits, and of those beside them.
func context(j api.Job, all []api.Record, hits [][]api.Hit) []string {
	var lines []string
	last := -1
	for i, r := range all {
		mark := ""
		for _, beside := range hits[max(i-j.After, 0):min(i+j.Before+1, len(all))] {
			if len(beside) > 0 {
				mark = "-"
			}
		}
		if len(hits[i]) > 0 {
			mark = ":"
		}
		if mark == "" {
			continue
		}
		if last >= 0 && last != i-1 {
			lines = append(lines, "--")
		}
		lines, last = append(lines, fmt.Sprintf("%d%s%s", r.N, mark, r.Text)), i
	}
	return lines
}

// has asks for a right job's records.
func has(t *testing.T, j api.Job, want []api.Record, err api.Errno) {
	t.Helper()
	if l, e := model.Records(j); !slices.Equal(l, want) || e != err {
		t.Fatalf("%s: Records = %v, %d; want %v, %d", name(j), l, e, want, err)
	}
}

// runs asks for what a right job comes to.
func runs(t *testing.T, j api.Job, want []string, err api.Errno) {
	t.Helper()
	if l, e := model.Run(j); !slices.Equal(l, want) || e != err {
		t.Fatalf("%s: Run = %q, %d; want %q, %d", name(j), l, e, want, err)
	}
}

// right asks a right job for all, and holds it against the plain reading.
func right(t *testing.T, j api.Job) {
	t.Helper()
	if !model.Right(j) {
		t.Fatalf("%s: isn't right", name(j))
	}
	want, err := records(j)
	has(t, j, want, err)
	lines, err := comes(j)
	runs(t, j, lines, err)
}

// wrong asks a job that isn't right for all.
func wrong(t *testing.T, j api.Job) {
	t.Helper()
	if model.Right(j) {
		t.Errorf("%s: is right", name(j))
	}
	if l, err := model.Records(j); len(l) != 0 || err != api.ErrArg {
		t.Errorf("%s: Records = %v, %d; want none, ErrArg", name(j), l, err)
	}
	if l, err := model.Run(j); len(l) != 0 || err != api.ErrArg {
		t.Errorf("%s: Run = %q, %d; want none, ErrArg", name(j), l, err)
	}
}

// field is one of a job's numbers.
type field struct {
	name        string
	of          func(*api.Job) *int
	least, most int
}

// limited are those that have limits.
func limited() []field {
	return []field{
		{"Code", func(j *api.Job) *int { return &j.Code }, 0, 3},
		{"Most", func(j *api.Job) *int { return &j.Most }, 1, 4096},
		{"Tell", func(j *api.Job) *int { return &j.Tell }, 0, 3},
		{"Before", func(j *api.Job) *int { return &j.Before }, 0, 16},
		{"After", func(j *api.Job) *int { return &j.After }, 0, 16},
		{"Buffers", func(j *api.Job) *int { return &j.Buffers }, 1, 64},
		{"Chunk", func(j *api.Job) *int { return &j.Chunk }, 1, 4096},
		{"Room", func(j *api.Job) *int { return &j.Room }, 0, 64},
		{"Workers", func(j *api.Job) *int { return &j.Workers }, 1, 16},
		{"Ring", func(j *api.Job) *int { return &j.Ring }, 1, 64},
	}
}

// anyNumbers are those that have none.
func anyNumbers() []field {
	return []field{
		{"Fail", func(j *api.Job) *int { return &j.Fail }, math.MinInt, math.MaxInt},
		{"Refuse", func(j *api.Job) *int { return &j.Refuse }, math.MinInt, math.MaxInt},
		{"Bad", func(j *api.Job) *int { return &j.Bad }, math.MinInt, math.MaxInt},
		{"Every", func(j *api.Job) *int { return &j.Every }, math.MinInt, math.MaxInt},
	}
}

// about are numbers at and about the ends of a field, and of all numbers.
func about(f field) []int {
	all := []int{
		math.MinInt, math.MinInt + 1, math.MinInt + f.least, math.MinInt + f.most, -1 << 32, -1<<32 + f.least, -256, -f.most, -1, 0, 1,
		(f.least + f.most) / 2, 256 + f.least, 1 << 16, 1<<16 + f.least, 1 << 32, 1<<32 + f.least, 1<<32 + f.most, math.MaxInt - 1, math.MaxInt,
	}
	for by := -3; by <= 3; by++ {
		all = append(all, f.least+by, f.most+by)
	}
	return all
}

// ends are jobs whose numbers are all the least, and all the greatest, and one
// of neither.
func ends() []api.Job {
	least, most := job("ab\nb", "b"), job("ab\nb", "b")
	for _, f := range limited() {
		*f.of(&least), *f.of(&most) = f.least, f.most
	}
	return []api.Job{least, job("ab\nb", "b"), most}
}

// P19.1

func TestTheExample(t *testing.T) {
	j := job("ab\ncb", "b")
	right(t, j)
	runs(t, j, []string{"0:1-2:b", "1:1-2:b"}, api.OK)
}

func TestRightAtEachLimit(t *testing.T) {
	for _, j := range ends() {
		right(t, j)
		for _, f := range limited() {
			for _, n := range about(f) {
				x := j
				*f.of(&x) = n
				if f.least <= n && n <= f.most {
					right(t, x)
				} else {
					wrong(t, x)
				}
			}
		}
	}
}

func TestRightWithAnyNumbers(t *testing.T) {
	for _, j := range ends() {
		for _, f := range anyNumbers() {
			for _, n := range append(sample.Sizes(), math.MinInt+1, -2, 4, 5, 1<<32, math.MaxInt-1) {
				x := j
				*f.of(&x) = n
				right(t, x)
			}
		}
	}
	least, most := job("ab\nb", "b"), job("ab\nb", "b")
	for _, f := range anyNumbers() {
		*f.of(&least), *f.of(&most) = f.least, f.most
	}
	right(t, least)
	right(t, most)
}

func TestRightByDataAndSizes(t *testing.T) {
	for _, j := range ends() {
		for _, n := range []int{0, 1, 2, 65534, 65535, 65536} {
			right(t, with(j, func(j *api.Job) { j.Data = make([]byte, n) }))
			right(t, with(j, func(j *api.Job) { j.Data = []byte(strings.Repeat("ab\n", n/3+1)[:n]) }))
		}
		for _, n := range []int{65537, 65538, 65536 + 256, 2 * 65536, 1 << 20} {
			wrong(t, with(j, func(j *api.Job) { j.Data = make([]byte, n) }))
			wrong(t, with(j, func(j *api.Job) { j.Data = []byte(strings.Repeat("ab\n", n/3+1)[:n]) }))
		}
		for n := range 200 {
			x := with(j, func(j *api.Job) { j.Sizes = make([]int, n) })
			if n <= 64 {
				right(t, x)
			} else {
				wrong(t, x)
			}
		}
		wrong(t, with(j, func(j *api.Job) { j.Sizes = make([]int, 65536) }))
		right(t, with(j, func(j *api.Job) { j.Data, j.Sizes = nil, nil }))
		right(t, with(j, func(j *api.Job) { j.Data, j.Sizes = []byte{}, []int{} }))
		right(t, with(j, func(j *api.Job) { j.Sizes = sample.Sizes() }))
		// What counts is how many there are, not how much room they have.
		right(t, with(j, func(j *api.Job) { j.Data, j.Sizes = make([]byte, 2, 1<<17), make([]int, 64, 128) }))
	}
}

func TestRightByThePattern(t *testing.T) {
	long := strings.Repeat("a", 200)
	for _, j := range ends() {
		for _, pattern := range []string{"", "()", "a", "[^a]*b?|^$", `\d+\n`, "\u20ac", "a{50}", long, strings.Repeat("|", 200), "(a{50}){39}a{49}", sample.Tower("a", sample.Times(10, "{1}")...), "((a?){50}){19}a"} {
			right(t, with(j, func(j *api.Job) { j.Pattern = pattern }))
		}
		for _, pattern := range []string{
			"(", ")", "*", "a**", "[", "]", "[b-a]", "a{51}", "a{2,1}", "{", `\`, `\a`, "\xff", "a\xc3", sample.Tower("a", sample.Times(11, "{1}")...),
			long + "a", strings.Repeat("|", 201), long + "(", strings.Repeat("(", 1<<16),
			"(a{50}){39}a{50}", "(a{50}){40}", "((a{50}){50}){50}", sample.Tower("a", sample.Times(10, "{50}")...),
		} {
			wrong(t, with(j, func(j *api.Job) { j.Pattern = pattern }))
		}
	}
}

func TestMuchThatIsWrong(t *testing.T) {
	wrong(t, api.Job{})
	for _, one := range limited() {
		// Each alone, and with one more.
		for _, other := range limited() {
			j := job("ab\nb", "b")
			*one.of(&j), *other.of(&j) = one.least-1, other.most+1
			wrong(t, j)
		}
		j := job("ab\nb", "b")
		*one.of(&j) = one.most + 1
		for _, turn := range []func(*api.Job){
			func(j *api.Job) { j.Pattern = "(" },
			func(j *api.Job) { j.Pattern = strings.Repeat("a", 201) },
			func(j *api.Job) { j.Data = make([]byte, 65537) },
			func(j *api.Job) { j.Data = nil },
			func(j *api.Job) { j.Sizes = make([]int, 65) },
			failing(0), failing(3), failing(math.MaxInt), every(2), every(math.MinInt),
		} {
			wrong(t, with(j, turn))
		}
	}
}

func TestLooked(t *testing.T) {
	for _, j := range []api.Job{job("ab\nb", "b"), {}, job("", "(")} {
		for _, n := range []int{math.MinInt, math.MinInt + 1, -1 << 32, -3, -2, -1, 0, 1} {
			for _, record := range []int{0, 1, 2, 3, 4, 5, 6, 7, 1000, 1 << 32, math.MaxInt - 1, math.MaxInt} {
				looked(t, j, n, record, true)
			}
		}
		for n := 2; n < 40; n++ {
			next := 0
			for record := range 200 {
				looked(t, j, n, record, record == next)
				if record == next {
					next += n
				}
			}
		}
		for _, n := range []int{2, 3, 7, 4096, 1<<32 + 1, 1 << 61, math.MaxInt / 2, math.MaxInt/2 + 1, math.MaxInt - 1, math.MaxInt} {
			looked(t, j, n, 0, true)
			looked(t, j, n, 1, false)
			looked(t, j, n, n-1, false)
			looked(t, j, n, n, true)
			times := math.MaxInt / n * n // the greatest of its multiples
			looked(t, j, n, times-1, false)
			looked(t, j, n, times, true)
			if times < math.MaxInt {
				looked(t, j, n, times+1, false)
			}
		}
	}
}

// looked asks for one record of a job that looks at every so-th one.
func looked(t *testing.T, j api.Job, n, record int, want bool) {
	t.Helper()
	j.Every = n
	if got := model.Looked(j, record); got != want {
		t.Errorf("Every %d: Looked at %d: %t; want %t", n, record, got, want)
	}
}

func TestLookedOfAnyNumber(t *testing.T) {
	j := job("", "")
	for _, n := range []int{-6, -4, -2, math.MinInt} {
		looked(t, j, 2, n, true)
		looked(t, j, 2, n+1, false)
	}
	looked(t, j, 3, -3, true)
	looked(t, j, 3, -2, false)
	looked(t, j, math.MaxInt, -math.MaxInt, true)
	looked(t, j, math.MaxInt, math.MinInt, false)
	looked(t, j, -1, math.MinInt, true)
	looked(t, j, 0, math.MinInt, true)
}
