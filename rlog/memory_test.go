package rlog_test

import (
	"slices"
	"testing"

	"quillet/api"
	"quillet/rlog"
)

// spoil writes over a list, its spare room too.
func spoil[T any](xs []T, x T) {
	xs = xs[:cap(xs)]
	for i := range xs {
		xs[i] = x
	}
}

func spoilConf(c api.Conf) {
	spoil(c.Voters, 77)
	spoil(c.Learners, 78)
}

func spoilEntries(es []api.Entry) {
	for _, e := range es {
		spoil(e.Data, 79)
	}
	spoil(es, api.Entry{Index: 77, Term: 77, Kind: 7, Data: []byte("spoilt")})
}

// given is entries whose Data lie in one list, and which have room behind.
func given() ([]api.Entry, []byte) {
	e := change(6, 3, voters(1, 2, 3))
	back := slices.Concat([]byte("five"), []byte{50, 51}, e.Data, []byte{52, 53})
	es := append(make([]api.Entry, 0, 9), submit(5, 2, ""), submit(6, 3, ""))
	es[0].Data = back[:4]
	es[1] = e
	es[1].Data = back[6 : 6+len(e.Data)]
	return es, back
}

// P16.4: entries that are appended are neither changed nor kept.
func TestEntriesAreNotKept(t *testing.T) {
	for _, wrong := range []bool{false, true} {
		b := newBoth(4, 2, voters(1))
		es, back := given()
		if wrong {
			es = append(es, noop(9, 9))
		}
		want, wantBack := slices.Clone(es), slices.Clone(back)
		behind := slices.Clone(es[len(es):cap(es)])
		b.append(t, es...)
		if !slices.EqualFunc(es, want, sameEntry) || !slices.Equal(back, wantBack) || !slices.EqualFunc(es[len(es):cap(es)], behind, sameEntry) {
			t.Fatalf("of the entries is left %v, %v", es, back)
		}
		spoil(back, 77)
		spoilEntries(es)
		b.around(t)
		b.cutFrom(t, 6)
		b.around(t)
	}
}

// P16.4: the configuration at the base is neither changed nor kept.
func TestBaseConfIsNotKept(t *testing.T) {
	back := []int{1, 2, 50, 3, 51}
	c := api.Conf{Voters: back[:2], Learners: back[3:4]}
	b := newBoth(4, 2, c)
	if !slices.Equal(back, []int{1, 2, 50, 3, 51}) {
		t.Fatalf("is left %v", back)
	}
	spoil(back, 77)
	b.around(t)
	b.append(t, noop(5, 2))
	b.dropTo(t, 5)
	b.around(t)
}

// P16.4: what is answered may be written over: neither the log nor another answer changes.
func TestAnswersAreNew(t *testing.T) {
	for drop := int64(4); drop <= 10; drop++ {
		b := rich(t)
		b.dropTo(t, drop)
		for i := int64(3); i <= 11; i++ {
			es, more := b.log.Entries(i, 9), b.log.Entries(i, 9)
			at, again := b.log.ConfAt(i), b.log.ConfAt(i)
			c, _ := b.log.Conf()
			d, _ := b.log.Conf()
			spoilEntries(es)
			spoilConf(at)
			spoilConf(c)
			want, _ := b.said.lastConf()
			if !slices.EqualFunc(more, b.said.from(i, 9), sameEntry) || !sameConf(again, b.said.confAt(i)) || !sameConf(d, want) {
				t.Fatalf("%d, %d: two answers share", drop, i)
			}
			b.around(t)
		}
		b.append(t, change(11, 9, voters(3)))
		b.around(t)
	}
}

// P16.4: no two lists of one answer share anything.
func TestListsOfOneAnswer(t *testing.T) {
	b := rich(t)
	want := b.said.from(0, 99)
	es := b.log.Entries(0, 99)
	for i := range es {
		spoil(es[i].Data, 79)
		for k := i + 1; k < len(es); k++ {
			if !sameEntry(es[k], want[k]) {
				t.Fatalf("%d and %d share", i, k)
			}
		}
	}
	c := b.log.ConfAt(4)
	spoil(c.Voters, 77)
	if !slices.Equal(c.Learners, []int{3}) {
		t.Error("the lists of the base's configuration share")
	}
}

// P16.4: what was answered stays, whatever comes later.
func TestAnswersStay(t *testing.T) {
	for i, then := range []func(l *rlog.Log){
		func(l *rlog.Log) { l.Append(noop(11, 9), change(12, 9, voters(2))) },
		func(l *rlog.Log) { l.CutFrom(5); l.Append(submit(5, 7, "other"), change(6, 8, voters(6))) },
		func(l *rlog.Log) { l.CutFrom(9); l.Append(change(9, 8, voters(6)), noop(10, 10), noop(11, 10)) },
		func(l *rlog.Log) { l.DropTo(10); l.Append(noop(11, 9)) },
		func(l *rlog.Log) { l.DropTo(7); l.CutFrom(8); l.Append(submit(8, 5, "z")) },
	} {
		b := rich(t)
		es, at := b.log.Entries(0, 99), b.log.ConfAt(7)
		c, _ := b.log.Conf()
		base := b.log.ConfAt(0)
		want, wantAt, wantBase := slices.Clone(b.said.entries), b.said.confAt(7), b.said.confAt(0)
		wantConf, _ := b.said.lastConf()
		then(b.log)
		if !slices.EqualFunc(es, want, sameEntry) || !sameConf(at, wantAt) || !sameConf(c, wantConf) || !sameConf(base, wantBase) {
			t.Errorf("%d changes what was answered", i)
		}
	}
}

// P16.4: two logs share nothing.
func TestTwoLogs(t *testing.T) {
	es, _ := given()
	c := voters(1, 2)
	a, b := newBoth(4, 2, c), newBoth(4, 2, c)
	for _, x := range []*both{a, b} {
		x.append(t, es...)
	}
	a.cutFrom(t, 6)
	a.append(t, submit(6, 9, "other"))
	b.around(t)
	b.dropTo(t, 6)
	a.around(t)
}
