package rlog_test

import (
	"bytes"
	"math"
	"slices"
	"testing"

	"quillet/api"
	"quillet/conf"
	"quillet/rlog"
)

const top = int64(1) << 40

// said is a log by the document's words: it looks at all its entries each time.
type said struct {
	index, term int64
	conf        api.Conf
	entries     []api.Entry
}

func saidNew(index, term int64, c api.Conf) *said {
	return &said{index: min(max(index, 0), top), term: min(max(term, 0), top), conf: copied(c)}
}

func copied(c api.Conf) api.Conf {
	return api.Conf{Voters: append([]int(nil), c.Voters...), Learners: append([]int(nil), c.Learners...)}
}

func sameConf(a, b api.Conf) bool {
	return slices.Equal(a.Voters, b.Voters) && slices.Equal(a.Learners, b.Learners)
}

func sameEntry(a, b api.Entry) bool {
	return a.Index == b.Index && a.Term == b.Term && a.Kind == b.Kind && bytes.Equal(a.Data, b.Data)
}

// isRight is layer 6's words, and those of this layer on changes.
func isRight(e api.Entry) bool {
	if e.Index < 1 || e.Index > top || e.Term < 0 || e.Term > top || e.Kind < 0 || e.Kind > 2 || len(e.Data) > 2048 {
		return false
	}
	_, code := conf.Load(e.Data)
	return e.Kind != 2 || code == api.OK
}

func (s *said) last() (int64, int64) {
	index, term := s.index, s.term
	for _, e := range s.entries {
		index, term = e.Index, e.Term
	}
	return index, term
}

func (s *said) append(es []api.Entry) api.Errno {
	index, term := s.last()
	for _, e := range es {
		switch {
		case !isRight(e):
			return api.ErrArg
		case e.Index-1 != index:
			return api.ErrGap
		case e.Term < term:
			return api.ErrOrder
		}
		index, term = e.Index, e.Term
	}
	for _, e := range es {
		e.Data = append([]byte(nil), e.Data...)
		s.entries = append(s.entries, e)
	}
	return api.OK
}

func (s *said) cutFrom(index int64) api.Errno {
	if index <= s.index {
		return api.ErrArg
	}
	var left []api.Entry
	for _, e := range s.entries {
		if e.Index < index {
			left = append(left, e)
		}
	}
	s.entries = left
	return api.OK
}

func (s *said) dropTo(index int64) api.Errno {
	if last, _ := s.last(); index < s.index || index > last {
		return api.ErrArg
	}
	s.conf = s.confAt(index)
	s.term, _ = s.termAt(index)
	s.index = index
	var left []api.Entry
	for _, e := range s.entries {
		if e.Index > index {
			left = append(left, e)
		}
	}
	s.entries = left
	return api.OK
}

func (s *said) termAt(index int64) (int64, bool) {
	if index == s.index {
		return s.term, true
	}
	for _, e := range s.entries {
		if e.Index == index {
			return e.Term, true
		}
	}
	return 0, false
}

func (s *said) from(index int64, most int) []api.Entry {
	var out []api.Entry
	for _, e := range s.entries {
		if e.Index >= index && len(out) < most {
			out = append(out, e)
		}
	}
	return out
}

func (s *said) lastConf() (api.Conf, int64) {
	c, at := s.conf, s.index
	for _, e := range s.entries {
		if e.Kind == 2 {
			c, _ = conf.Load(e.Data)
			at = e.Index
		}
	}
	return c, at
}

func (s *said) confAt(index int64) api.Conf {
	c := s.conf
	for _, e := range s.entries {
		if e.Kind == 2 && e.Index <= index {
			c, _ = conf.Load(e.Data)
		}
	}
	return c
}

func (s *said) newer(index, term int64) bool {
	last, lastTerm := s.last()
	if term == lastTerm {
		return index >= last
	}
	return term > lastTerm
}

// both is a Log, and what is said of it.
type both struct {
	log  *rlog.Log
	said *said
}

func newBoth(index, term int64, c api.Conf) *both {
	return &both{rlog.New(index, term, c), saidNew(index, term, c)}
}

func (b *both) append(t *testing.T, es ...api.Entry) api.Errno {
	t.Helper()
	want, got := b.said.append(es), b.log.Append(es...)
	if got != want {
		t.Fatalf("Append(%v) = %d, not %d", es, got, want)
	}
	b.told(t, "Append")
	return got
}

func (b *both) cutFrom(t *testing.T, index int64) api.Errno {
	t.Helper()
	want, got := b.said.cutFrom(index), b.log.CutFrom(index)
	if got != want {
		t.Fatalf("CutFrom(%d) = %d, not %d", index, got, want)
	}
	b.told(t, "CutFrom")
	return got
}

func (b *both) dropTo(t *testing.T, index int64) api.Errno {
	t.Helper()
	want, got := b.said.dropTo(index), b.log.DropTo(index)
	if got != want {
		t.Fatalf("DropTo(%d) = %d, not %d", index, got, want)
	}
	b.told(t, "DropTo")
	return got
}

// told holds what the log tells of the whole against what is said.
func (b *both) told(t *testing.T, behind string) {
	t.Helper()
	if i, term := b.log.Base(); i != b.said.index || term != b.said.term {
		t.Fatalf("behind %s the base is %d, %d; not %d, %d", behind, i, term, b.said.index, b.said.term)
	}
	last, lastTerm := b.said.last()
	if i, term := b.log.Last(); i != last || term != lastTerm {
		t.Fatalf("behind %s the last is %d, %d; not %d, %d", behind, i, term, last, lastTerm)
	}
	c, at := b.log.Conf()
	if want, place := b.said.lastConf(); at != place || !sameConf(c, want) {
		t.Fatalf("behind %s Conf is %v, %d; not %v, %d", behind, c, at, want, place)
	}
	if es := b.log.Entries(0, math.MaxInt); !slices.EqualFunc(es, b.said.entries, sameEntry) {
		t.Fatalf("behind %s the entries are %v, not %v", behind, es, b.said.entries)
	}
}

// around asks at every index near what there is, and at the edges.
func (b *both) around(t *testing.T) {
	t.Helper()
	b.told(t, "all")
	last, lastTerm := b.said.last()
	places := []int64{math.MinInt64, math.MinInt64 + 1, -top, -1, 0, 1, top, top + 1, math.MaxInt64 - 1, math.MaxInt64}
	for i := b.said.index - 2; i <= last+2; i++ {
		places = append(places, i)
	}
	terms := []int64{math.MinInt64, -1, 0, lastTerm - 1, lastTerm, lastTerm + 1, b.said.term, top, math.MaxInt64}
	for _, i := range places {
		b.at(t, i)
		for _, term := range terms {
			if got := b.log.Newer(i, term); got != b.said.newer(i, term) {
				t.Fatalf("Newer(%d, %d) = %v, of the last %d, %d", i, term, got, last, lastTerm)
			}
		}
	}
}

// at asks all that is asked of an index.
func (b *both) at(t *testing.T, i int64) {
	t.Helper()
	term, ok := b.said.termAt(i)
	if got, is := b.log.Term(i); got != term || is != ok {
		t.Fatalf("Term(%d) = %d, %v; not %d, %v", i, got, is, term, ok)
	}
	for _, x := range []int64{term - 1, term, term + 1, 0, -1, top, math.MinInt64} {
		if got := b.log.Has(i, x); got != (ok && x == term) {
			t.Fatalf("Has(%d, %d) = %v, of the term %d, %v", i, x, got, term, ok)
		}
	}
	if got := b.log.ConfAt(i); !sameConf(got, b.said.confAt(i)) {
		t.Fatalf("ConfAt(%d) = %v, not %v", i, got, b.said.confAt(i))
	}
	n := len(b.said.entries)
	for _, most := range []int{math.MinInt, -1, 0, 1, 2, n - 1, n, n + 1, math.MaxInt} {
		if got := b.log.Entries(i, most); !slices.EqualFunc(got, b.said.from(i, most), sameEntry) {
			t.Fatalf("Entries(%d, %d) = %v, not %v", i, most, got, b.said.from(i, most))
		}
	}
}

// voters is a configuration of voters alone, and its bytes.
func voters(ns ...int) api.Conf { return api.Conf{Voters: ns} }

func change(index, term int64, c api.Conf) api.Entry {
	b, code := conf.Bytes(c)
	if code != api.OK {
		panic("no right configuration")
	}
	return api.Entry{Index: index, Term: term, Kind: api.Change, Data: b}
}

func submit(index, term int64, data string) api.Entry {
	return api.Entry{Index: index, Term: term, Kind: api.Submit, Data: []byte(data)}
}

func noop(index, term int64) api.Entry { return api.Entry{Index: index, Term: term} }

// rich is of a log that has some of everything: the base at 4, of term 2, changes at 6 and 9, the last at 10.
func rich(t *testing.T) *both {
	t.Helper()
	b := newBoth(4, 2, api.Conf{Voters: []int{1, 2}, Learners: []int{3}})
	es := []api.Entry{noop(5, 2), change(6, 3, voters(1, 2, 3)), submit(7, 3, "seven"), submit(8, 5, ""), change(9, 5, voters(1, 2, 3, 4)), submit(10, 9, "ten")}
	if b.append(t, es...) != api.OK {
		t.Fatal("no rich log")
	}
	return b
}
