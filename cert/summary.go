package cert

import (
	"quillet/api"
	"quillet/preds"
	"quillet/vers"
)

// summary is what is known of the ones ahead of the recent ones.
type summary struct {
	writers, marked, readers *vers.Table // marked: those of the writers that have the mark out
	spans                    *preds.Table
}

func newSummary(most int) summary {
	return summary{vers.New(most), vers.New(most), vers.New(most), preds.New(most)}
}

// keyTables are in the order of a Cert's bytes.
func (t summary) keyTables() []*vers.Table { return []*vers.Table{t.writers, t.marked, t.readers} }

// table is one of either kind.
type table interface{ Clear() }

func (t summary) empty() {
	for _, x := range []table{t.writers, t.marked, t.readers, t.spans} {
		x.Clear()
	}
}

// meet is what a submission has to do with those of the summary that are beside it.
func (t summary) meet(s api.Sub) met {
	m := met{
		written: greatest(s.Writes, t.writers.At) > s.Snap,
		marked:  read(s, t.marked) > s.Snap,
	}
	// Which of the writers beside it is the first isn't known: none is ahead of this number.
	if read(s, t.writers) > s.Snap {
		m.first = s.Snap + 1
	}
	if n := max(greatest(s.Writes, t.readers.At), greatest(s.Writes, t.spans.At)); n > s.Snap {
		m.last = n
	}
	return m
}

// read is the greatest number of the keys that a submission reads.
func read(s api.Sub, t *vers.Table) int64 {
	return max(greatest(s.Reads, t.At), greatest(s.Spans, t.Over))
}

// greatest is the greatest of the numbers that things have.
func greatest[T any](xs []T, number func(T) int64) int64 {
	n := int64(0)
	for _, x := range xs {
		n = max(n, number(x))
	}
	return n
}

// put takes a transaction in, and tells whether there was room for all of it.
func (t summary) put(k known) bool {
	room := putAll(k.Sub.Writes, k.Num, t.writers.Put) &&
		putAll(k.Sub.Reads, k.Num, t.readers.Put) &&
		putAll(k.Sub.Spans, k.Num, t.spans.Put)
	if k.out {
		room = room && putAll(k.Sub.Writes, k.Num, t.marked.Put)
	}
	return room
}

func putAll[T any](xs []T, n int64, put func(T, int64) api.Errno) bool {
	for _, x := range xs {
		if put(x, n) != api.OK {
			return false
		}
	}
	return true
}
