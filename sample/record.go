package sample

import (
	"strings"

	"reedbed/api"
)

// Records are a text's by the document's words: with ErrLong, those ahead of
// the first one that has more octets than may be.
func Records(most int, text string) ([]api.Record, api.Errno) {
	var all []api.Record
	at := 0
	for n, line := range strings.SplitAfter(text, "\n") {
		record, ended := strings.CutSuffix(line, "\n")
		if ended {
			record = strings.TrimSuffix(record, "\r")
		}
		if record == "" && !ended {
			break
		}
		if len(record) > most {
			return all, api.ErrLong
		}
		all = append(all, api.Record{N: n, At: at, Text: record})
		at += len(line)
	}
	return all, api.OK
}

// TextBehinds are what may come behind a text: with them any text is one whose
// last record is too long, and one whose last record isn't, if that isn't known.
func TextBehinds() []string {
	return []string{"", "\n", "\r", "a", "\r\n", "\ra", "\r\r", "\n\n"}
}

// RecordsBegun are those of a text that isn't closed: the records that have
// ended, and ErrLong, if the next one is too long whatever comes behind.
func RecordsBegun(most int, text string) ([]api.Record, api.Errno) {
	all, err := Records(most, text[:strings.LastIndexByte(text, '\n')+1])
	for _, behind := range TextBehinds() {
		if more, long := Records(most, text+behind); long == api.OK || len(more) > len(all) {
			return all, err
		}
	}
	return all, api.ErrLong
}
