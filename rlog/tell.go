package rlog

import "quillet/api"

// Base is the base's index and term.
func (l *Log) Base() (int64, int64) { return l.index, l.term }

// Last is the last entry's index and term.
func (l *Log) Last() (int64, int64) {
	n := len(l.entries)
	if n == 0 {
		return l.Base()
	}
	return l.entries[n-1].Index, l.entries[n-1].Term
}

// Term is the term at an index.
func (l *Log) Term(index int64) (int64, bool) {
	last, _ := l.Last()
	switch {
	case index < l.index || index > last:
		return 0, false
	case index == l.index:
		return l.term, true
	}
	return l.entries[l.ahead(index)].Term, true
}

// Entries are the entries from an index on.
func (l *Log) Entries(from int64, most int) []api.Entry {
	rest := l.entries[l.ahead(from):]
	out := make([]api.Entry, max(0, min(most, len(rest))))
	for i := range out {
		out[i] = cloneEntry(rest[i])
	}
	return out
}

// Conf is the last configuration, and its entry's index.
func (l *Log) Conf() (api.Conf, int64) {
	last := l.confs[len(l.confs)-1]
	return clone(last.conf), last.at
}

// ConfAt is the configuration at an index.
func (l *Log) ConfAt(index int64) api.Conf {
	return clone(l.confs[l.confsUpTo(index)-1].conf)
}

// Has tells whether there is an entry of a term at an index.
func (l *Log) Has(index, term int64) bool {
	is, ok := l.Term(index)
	return ok && is == term
}

// Newer tells whether a log that ends so is at least as new.
func (l *Log) Newer(index, term int64) bool {
	last, lastTerm := l.Last()
	return term > lastTerm || term == lastTerm && index >= last
}
