package mode

import (
	"strings"

	"reedbed/api"
)

// context tells the records that have hits, and those beside them.
func (t *Teller) context(before, after int) way {
	show, behind := inRow(), 0 // so many more are told behind one that has hits
	return func(r api.Record, hits ...api.Hit) []string {
		switch {
		case len(hits) > 0:
			behind = after
			return append(show("-", t.waits.take()...), show(":", r)...)
		case behind > 0:
			behind--
			return show("-", r)
		}
		t.waits.put(r, before)
		return nil
	}
}

// inRow makes lines of records, all with one mark, and the line -- ahead of
// each that isn't right behind the one that was told ahead of it.
func inRow() func(mark string, records ...api.Record) []string {
	begun, next := false, 0
	return func(mark string, records ...api.Record) []string {
		var lines []string
		for _, r := range records {
			if begun && r.N != next {
				lines = append(lines, "--")
			}
			lines = append(lines, line(r, mark, r.Text))
			begun, next = true, r.N+1
		}
		return lines
	}
}

// waiting are the last records, as far as they weren't told: one that has hits
// may come right behind them.
type waiting struct {
	records [api.MaxBeside]api.Record
	many    int
}

// put puts a record behind them; only the last so many stay.
func (w *waiting) put(r api.Record, most int) {
	if most == 0 {
		return
	}
	if w.many == most {
		copy(w.records[:], w.records[1:most])
		w.many--
	}
	// A copy, lest a short text keep the memory of a long one it is part of.
	r.Text = strings.Clone(r.Text)
	w.records[w.many] = r
	w.many++
}

// take takes them all.
func (w *waiting) take() []api.Record {
	taken := *w
	*w = waiting{}
	return taken.records[:taken.many]
}

// octets is how many their texts have.
func (w *waiting) octets() int {
	n := 0
	for _, r := range w.records[:w.many] {
		n += len(r.Text)
	}
	return n
}
