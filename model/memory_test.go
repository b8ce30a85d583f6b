package model_test

import (
	"math"
	"slices"
	"testing"

	"reedbed/api"
	"reedbed/model"
	"reedbed/sample"
)

// answers are all that is answered of a right job: copies, so that they stay.
type answers struct {
	records []api.Record
	err     api.Errno
	lines   []string
	cause   api.Errno
	looked  []bool
}

// answered are a job's.
func answered(j api.Job) answers {
	var a answers
	a.records, a.err = model.Records(j)
	a.lines, a.cause = model.Run(j)
	a.records, a.lines = slices.Clone(a.records), slices.Clone(a.lines)
	for n := range 12 {
		a.looked = append(a.looked, model.Looked(j, n))
	}
	return a
}

func (a answers) is(b answers) bool {
	return slices.Equal(a.records, b.records) && a.err == b.err &&
		slices.Equal(a.lines, b.lines) && a.cause == b.cause && slices.Equal(a.looked, b.looked)
}

// stays asks a job for the same as another one of which just what doesn't count
// differs.
func stays(t *testing.T, j api.Job, want answers) {
	t.Helper()
	if !model.Right(j) {
		t.Fatalf("%s: isn't right", name(j))
	}
	if a := answered(j); !a.is(want) {
		t.Fatalf("%s: answers %v; want %v", name(j), a, want)
	}
}

// few are jobs of each way of telling, with each error, and without.
func few() []api.Job {
	var all []api.Job
	for _, way := range ways() {
		for _, data := range []string{"", "ab\ncc\n\nbab\r\nb", "ab\ncc\nlonger\nb", "c\xffb\nb\xe2\x82\n\rb\nab"} {
			all = append(all, job(data, "b", way), job(data, "b", way, every(2)), job(data, "b|$", way, failing(7)), job(data, "c", way, failing(1)))
		}
		all = append(all, job("\xff\xfea\x00b\x00\n\x00b\x00", "b", way), job("\x00b\x00\n", "b", way, coded(api.High)))
	}
	return all
}

// idle turn what doesn't count, each to one of six that are right.
func idle() []func(*api.Job, int) {
	turns := []func(*api.Job, int){
		func(j *api.Job, n int) { j.Refuse = []int{math.MinInt, -1, 0, 1, 2, math.MaxInt}[n] },
		func(j *api.Job, n int) { j.Bad = []int{math.MinInt, -1, 0, 1, 3, math.MaxInt}[n] },
		func(j *api.Job, n int) {
			j.Sizes = [][]int{nil, {1}, {0, -5, 3}, sample.Sizes(), make([]int, 64), slices.Repeat([]int{7, 1}, 32)}[n]
		},
	}
	for _, f := range limited()[5:] {
		turns = append(turns, func(j *api.Job, n int) {
			*f.of(j) = []int{f.least, f.least + 1, f.least + 2, (f.least + f.most) / 2, f.most - 1, f.most}[n]
		})
	}
	return turns
}

// P19.2

func TestWhatDoesntCount(t *testing.T) {
	turns := idle()
	next := sample.Row(2)
	for _, j := range few() {
		want := answered(j)
		for _, turn := range turns {
			for n := range 6 {
				stays(t, with(j, func(j *api.Job) { turn(j, n) }), want)
			}
		}
		for range 20 {
			x := j
			for _, turn := range turns {
				turn(&x, next(6))
			}
			stays(t, x, want)
		}
	}
}

func TestWhatIsHandedInStays(t *testing.T) {
	for _, j := range few() {
		want := answered(j)
		data, sizes := slices.Clone(j.Data), []int{3, 0, -1, math.MaxInt}
		allData, part := sample.WithRoom(data)
		allSizes, some := sample.WithRoom(sizes)
		j.Data, j.Sizes = part, some
		stays(t, j, want)
		if !slices.Equal(allData, append(data, 0x55, 0x55, 0x55, 0x55)) || !slices.Equal(allSizes, append(sizes, 0x55, 0x55, 0x55, 0x55)) {
			t.Fatalf("%s: what was handed in is now %q, %v", name(j), allData, allSizes)
		}
	}
}

func TestWhatIsHandedInIsNotKept(t *testing.T) {
	for _, j := range few() {
		want := answered(j)
		x := j
		x.Data, x.Sizes = slices.Clone(j.Data), []int{1, 2, 3}
		records, err := model.Records(x)
		lines, cause := model.Run(x)
		sample.Spoil(x.Data)
		sample.Spoil(x.Sizes)
		if !slices.Equal(records, want.records) || err != want.err || !slices.Equal(lines, want.lines) || cause != want.cause {
			t.Fatalf("%s: answers %v, %q behind a change to what was handed in", name(j), records, lines)
		}
		// The same memory with other octets is another job.
		right(t, x)
		copy(x.Data, j.Data)
		stays(t, x, want)
	}
}

func TestAnswersAreNewMemory(t *testing.T) {
	for _, j := range few() {
		want := answered(j)
		records, _ := model.Records(j)
		lines, _ := model.Run(j)
		for range 2 {
			other, _ := model.Records(j)
			sample.SpoilBy(other, api.Record{N: -7, At: -7, Text: "spoilt"})
			more, _ := model.Run(j)
			sample.SpoilBy(more, "spoilt")
			stays(t, j, want)
		}
		if !slices.Equal(records, want.records) || !slices.Equal(lines, want.lines) {
			t.Fatalf("%s: what was answered is now %v, %q", name(j), records, lines)
		}
	}
}

// TestJobsSideBySide: what one comes to doesn't depend on others asked ahead.
func TestJobsSideBySide(t *testing.T) {
	next := sample.Row(92)
	all := few()
	for range 30 {
		all = append(all, anyJob(next))
	}
	var wants []answers
	for _, j := range all {
		wants = append(wants, answered(j))
	}
	for range 2000 {
		k := next(len(all))
		stays(t, all[k], wants[k])
		if next(3) == 0 {
			wrong(t, with(all[k], func(j *api.Job) { j.Ring = 0 }))
		}
	}
}
