package mode

import (
	"strconv"

	"reedbed/api"
)

// way is one of telling: the lines of a record that has these hits, which lie in
// its text.
type way func(r api.Record, hits ...api.Hit) []string

// line is that of a record: a mark stands between its number and what is told.
func line(r api.Record, mark, told string) string {
	return strconv.Itoa(r.N) + mark + told
}

// each tells each hit.
func each(r api.Record, hits ...api.Hit) []string {
	var lines []string
	for _, h := range hits {
		place := strconv.Itoa(h.From) + "-" + strconv.Itoa(h.To)
		lines = append(lines, line(r, ":", place+":"+r.Text[h.From:h.To]))
	}
	return lines
}

// first tells the first record that has a hit.
func (t *Teller) first() way {
	return func(r api.Record, hits ...api.Hit) []string {
		if len(hits) == 0 {
			return nil
		}
		t.enough, t.over = true, true
		return []string{line(r, ":", r.Text)}
	}
}

// count counts, and tells that at the end.
func count() (way, func() []string) {
	records, all := 0, 0
	add := func(r api.Record, hits ...api.Hit) []string {
		if len(hits) > 0 {
			records++
			all += len(hits)
		}
		return nil
	}
	end := func() []string {
		return []string{strconv.Itoa(records) + " " + strconv.Itoa(all)}
	}
	return add, end
}
