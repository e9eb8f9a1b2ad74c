package rlog_test

import (
	"fmt"
	"math"
	"testing"

	"quillet/api"
	"quillet/conf"
	"quillet/rlog"
)

// P16.1: the chapter's example.
func TestExample(t *testing.T) {
	l := rlog.New(0, 0, voters(1))
	if code := l.Append(noop(1, 1), noop(2, 3)); code != api.OK {
		t.Fatalf("Append = %d", code)
	}
	if i, term := l.Last(); i != 2 || term != 3 {
		t.Errorf("the last is %d, %d", i, term)
	}
	if !l.Newer(1, 4) || l.Newer(1, 3) {
		t.Error("Newer(1, 4), not Newer(1, 3)")
	}
	code := l.DropTo(1)
	if i, term := l.Base(); code != api.OK || i != 1 || term != 1 {
		t.Errorf("the base is %d, %d", i, term)
	}
}

// P16.1: numbers of the base that are out of their range are clamped; any configuration may be at it.
func TestNew(t *testing.T) {
	edges := map[int64]int64{math.MinInt64: 0, -1: 0, 0: 0, 1: 1, 5: 5, 1 << 33: 1 << 33, top - 1: top - 1, top: top, top + 1: top, math.MaxInt64: top}
	confs := []api.Conf{{}, voters(1), {Voters: []int{2, 3}, Learners: []int{1}}, voters(3, 3, 1), voters(-9, 8), {Learners: []int{5}}}
	for index, i := range edges {
		for term, x := range edges {
			for _, c := range confs {
				b := newBoth(index, term, c)
				if gotIndex, gotTerm := b.log.Base(); gotIndex != i || gotTerm != x {
					t.Fatalf("New(%d, %d) has the base %d, %d", index, term, gotIndex, gotTerm)
				}
				got, at := b.log.Conf()
				if at != i || !sameConf(got, c) || !sameConf(b.log.ConfAt(i), c) || !sameConf(b.log.ConfAt(-1), c) {
					t.Fatalf("New of %v has %v at %d", c, got, at)
				}
				b.around(t)
			}
		}
	}
}

// P16.1, P16.2: what comes behind the greatest base, and the greatest index.
func TestGreatestIndex(t *testing.T) {
	b := newBoth(top-2, top-1, voters(1))
	for _, x := range []struct {
		e    api.Entry
		code api.Errno
	}{
		{noop(top-1, top-2), api.ErrOrder},
		{noop(top, top), api.ErrGap},
		{noop(top-1, top+1), api.ErrArg},
		{noop(top-1, top-1), api.OK},
		{noop(top, top), api.OK},
		{noop(top+1, top), api.ErrArg},
		{noop(top, top), api.ErrGap},
	} {
		if code := b.append(t, x.e); code != x.code {
			t.Errorf("Append(%v) = %d, not %d", x.e, code, x.code)
		}
		b.around(t)
	}
	for _, x := range []api.Errno{b.dropTo(t, top+1), b.dropTo(t, math.MaxInt64), b.cutFrom(t, math.MinInt64)} {
		if x != api.ErrArg {
			t.Errorf("out of its range: %d", x)
		}
	}
	if b.cutFrom(t, top+1) != api.OK || b.cutFrom(t, math.MaxInt64) != api.OK || b.dropTo(t, top) != api.OK {
		t.Error("CutFrom behind all, DropTo all")
	}
	if b.append(t, noop(top+1, top)) != api.ErrArg || b.append(t) != api.OK {
		t.Error("nothing comes behind the greatest index")
	}
	b.around(t)
}

// rightCases are entries that would follow index 4 and term 2, but for one thing.
func rightCases() map[string]struct {
	e    api.Entry
	code api.Errno
} {
	type row = struct {
		e    api.Entry
		code api.Errno
	}
	right, _ := conf.Bytes(api.Conf{Voters: []int{1, 2}, Learners: []int{7}})
	out := map[string]row{
		"as it should be": {noop(5, 2), api.OK},
		"all greatest":    {api.Entry{Index: 5, Term: top, Kind: 1, Data: make([]byte, 2048)}, api.OK},
	}
	for n, code := range map[int64]api.Errno{math.MinInt64: 1, -1: 1, 0: 1, 1: 60, 3: 60, 4: 60, 5: 0, 6: 60, 5 + 1<<32: 60, top: 60, top + 1: 1, math.MaxInt64: 1} {
		out[fmt.Sprint("Index ", n)] = row{noop(n, 2), code}
	}
	for n, code := range map[int64]api.Errno{math.MinInt64: 1, -1: 1, 0: 42, 1: 42, 2: 0, 3: 0, 1 << 33: 0, top - 1: 0, top: 0, top + 1: 1, math.MaxInt64: 1} {
		out[fmt.Sprint("Term ", n)] = row{noop(5, n), code}
	}
	for n, code := range map[int]api.Errno{math.MinInt: 1, -1: 1, 0: 0, 1: 0, 2: 0, 3: 1, 256: 1, 1 << 32: 1, 1<<32 + 1: 1, math.MaxInt: 1} {
		out[fmt.Sprint("Kind ", n)] = row{api.Entry{Index: 5, Term: 2, Kind: n, Data: right}, code}
	}
	for n, code := range map[int]api.Errno{0: 0, 1: 0, 2047: 0, 2048: 0, 2049: 1, 4096: 1, 70000: 1} {
		for kind := range 2 {
			out[fmt.Sprint("Data ", n, " of ", kind)] = row{api.Entry{Index: 5, Term: 2, Kind: kind, Data: make([]byte, n)}, code}
		}
		out[fmt.Sprint("a change's Data ", n)] = row{api.Entry{Index: 5, Term: 2, Kind: 2, Data: make([]byte, n)}, 1}
	}
	for i := range right {
		out[fmt.Sprint("a change cut at ", i)] = row{api.Entry{Index: 5, Term: 2, Kind: 2, Data: right[:i]}, 1}
	}
	for name, data := range map[string][]byte{"a byte more": append([]byte(nil), append(right, 0)...), "nobody votes": {0, 0}, "nobody votes, one learns": {0, 2, 2}, "in both": {2, 2, 2, 2}, "another form": {0x82, 0, 2, 0}, "an eighth": {2, 16, 0}} {
		out[name] = row{api.Entry{Index: 5, Term: 2, Kind: 2, Data: data}, 1}
	}
	return out
}

// P16.1, P16.2: which entries are taken; one that isn't leaves no trace, nor do others beside it.
func TestAppendRefuses(t *testing.T) {
	for name, x := range rightCases() {
		fresh := newBoth(4, 2, voters(1))
		if code := fresh.append(t, x.e); code != x.code {
			t.Errorf("%s: %d, not %d", name, code, x.code)
		}
		behind := newBoth(3, 1, voters(1))
		if code := behind.append(t, noop(4, 2), x.e); code != x.code {
			t.Errorf("%s, behind another one: %d, not %d", name, code, x.code)
		}
		ahead := newBoth(4, 2, voters(1))
		next := noop(6, top)
		if code := ahead.append(t, x.e, next); code != x.code {
			t.Errorf("%s, ahead of another one: %d, not %d", name, code, x.code)
		}
		later := newBoth(3, 1, voters(1))
		later.append(t, noop(4, 2))
		if code := later.append(t, x.e); code != x.code {
			t.Errorf("%s, behind one that is there: %d, not %d", name, code, x.code)
		}
		for _, b := range []*both{fresh, behind, ahead, later} {
			b.around(t)
		}
	}
}

// P16.1: the first entry of which an error holds, and of it the first error.
func TestOrderOfErrors(t *testing.T) {
	good, gap, order, wrong := noop(5, 2), noop(9, 2), noop(5, 1), api.Entry{Index: 5, Term: 2, Kind: 3}
	gapAndOrder := noop(9, 1)
	wrongAndAll := api.Entry{Index: 9, Term: 1, Kind: api.Change}
	for i, x := range []struct {
		es   []api.Entry
		code api.Errno
	}{
		{nil, api.OK},
		{[]api.Entry{good}, api.OK},
		{[]api.Entry{gap, wrong}, api.ErrGap},
		{[]api.Entry{order, wrong}, api.ErrOrder},
		{[]api.Entry{order, gap}, api.ErrOrder},
		{[]api.Entry{wrong, gap}, api.ErrArg},
		{[]api.Entry{gapAndOrder}, api.ErrGap},
		{[]api.Entry{wrongAndAll}, api.ErrArg},
		{[]api.Entry{good, gapAndOrder, wrong}, api.ErrGap},
		{[]api.Entry{good, noop(6, 1), wrong}, api.ErrOrder},
		{[]api.Entry{good, wrongAndAll, gap}, api.ErrArg},
		{[]api.Entry{good, good}, api.ErrGap},
		{[]api.Entry{good, noop(6, 2), noop(7, 2)}, api.OK},
		{[]api.Entry{noop(5, 4), noop(6, 3)}, api.ErrOrder},
		{[]api.Entry{noop(6, 2), noop(5, 2)}, api.ErrGap},
	} {
		b := newBoth(4, 2, voters(1))
		if code := b.append(t, x.es...); code != x.code {
			t.Errorf("%d: %d, not %d", i, code, x.code)
		}
		b.around(t)
	}
}

// P16.1: CutFrom at every index, and beyond.
func TestCutFrom(t *testing.T) {
	for index, code := range map[int64]api.Errno{math.MinInt64: 1, -1: 1, 0: 1, 3: 1, 4: 1, 5: 0, 6: 0, 7: 0, 8: 0, 9: 0, 10: 0, 11: 0, 12: 0, top: 0, math.MaxInt64: 0} {
		b := rich(t)
		if got := b.cutFrom(t, index); got != code {
			t.Errorf("CutFrom(%d) = %d, not %d", index, got, code)
		}
		b.around(t)
		last, term := b.said.last()
		for _, e := range []api.Entry{noop(last+2, 9), noop(last+1, term-1), submit(last+1, term, "other"), change(last+2, term, voters(7))} {
			b.append(t, e)
		}
		b.around(t)
	}
}

// P16.1, P16.3: DropTo at every index, and beyond; with the term and the configuration there.
func TestDropTo(t *testing.T) {
	for index, code := range map[int64]api.Errno{math.MinInt64: 1, -1: 1, 0: 1, 3: 1, 4: 0, 5: 0, 6: 0, 7: 0, 8: 0, 9: 0, 10: 0, 11: 1, 12: 1, top: 1, math.MaxInt64: 1} {
		b := rich(t)
		if got := b.dropTo(t, index); got != code {
			t.Errorf("DropTo(%d) = %d, not %d", index, got, code)
		}
		b.around(t)
		b.append(t, noop(11, 8))
		b.append(t, change(11, 9, voters(5)), noop(12, 10))
		b.around(t)
		b.cutFrom(t, 11)
		b.around(t)
	}
	b := rich(t)
	for index := int64(4); index <= 10; index++ {
		for range 2 {
			if b.dropTo(t, index) != api.OK {
				t.Errorf("DropTo(%d), one behind the other", index)
			}
			b.around(t)
		}
	}
	b = newBoth(0, 0, voters(1))
	if b.dropTo(t, 0) != api.OK || b.dropTo(t, 1) != api.ErrArg || b.cutFrom(t, 0) != api.ErrArg || b.cutFrom(t, 1) != api.OK {
		t.Error("a log of no entries")
	}
}

// P16.3: what is dropped changes no answer about what is left.
func TestDroppedChangesNothing(t *testing.T) {
	for index := int64(4); index <= 10; index++ {
		whole, cut := rich(t).log, rich(t).log
		if cut.DropTo(index) != api.OK {
			t.Fatalf("DropTo(%d)", index)
		}
		wi, wt := whole.Last()
		ci, ct := cut.Last()
		wc, _ := whole.Conf()
		cc, _ := cut.Conf()
		if wi != ci || wt != ct || !sameConf(wc, cc) {
			t.Errorf("DropTo(%d): the last is %d, %d with %v", index, ci, ct, cc)
		}
		for i := index; i <= 12; i++ {
			wt, wok := whole.Term(i)
			ct, cok := cut.Term(i)
			if wt != ct || wok != cok || !sameConf(whole.ConfAt(i), cut.ConfAt(i)) {
				t.Errorf("DropTo(%d): at %d is %d, %v, %v", index, i, ct, cok, cut.ConfAt(i))
			}
			if w, c := whole.Entries(i+1, 99), cut.Entries(i+1, 99); fmt.Sprint(w) != fmt.Sprint(c) {
				t.Errorf("DropTo(%d): from %d on are %v", index, i+1, c)
			}
			for term := int64(0); term < 11; term++ {
				if whole.Has(i, term) != cut.Has(i, term) || whole.Newer(i, term) != cut.Newer(i, term) {
					t.Errorf("DropTo(%d): Has or Newer(%d, %d)", index, i, term)
				}
			}
		}
	}
}

// P16.1: Conf is of the last change; where that goes, of the one ahead.
func TestConf(t *testing.T) {
	b := rich(t)
	for _, x := range []struct {
		cut  int64
		c    api.Conf
		from int64
	}{{11, voters(1, 2, 3, 4), 9}, {10, voters(1, 2, 3, 4), 9}, {9, voters(1, 2, 3), 6}, {7, voters(1, 2, 3), 6}, {6, api.Conf{Voters: []int{1, 2}, Learners: []int{3}}, 4}, {5, api.Conf{Voters: []int{1, 2}, Learners: []int{3}}, 4}} {
		b.cutFrom(t, x.cut)
		if c, at := b.log.Conf(); at != x.from || !sameConf(c, x.c) {
			t.Errorf("CutFrom(%d): %v at %d", x.cut, c, at)
		}
	}
	b = rich(t)
	for _, x := range []struct {
		drop int64
		c    api.Conf
		at   int64
	}{{5, voters(1, 2, 3, 4), 9}, {6, voters(1, 2, 3, 4), 9}, {8, voters(1, 2, 3, 4), 9}, {9, voters(1, 2, 3, 4), 9}, {10, voters(1, 2, 3, 4), 10}} {
		b.dropTo(t, x.drop)
		if c, at := b.log.Conf(); at != x.at || !sameConf(c, x.c) {
			t.Errorf("DropTo(%d): %v at %d", x.drop, c, at)
		}
	}
	b = rich(t)
	b.dropTo(t, 7)
	b.cutFrom(t, 8)
	if c, at := b.log.Conf(); at != 7 || !sameConf(c, voters(1, 2, 3)) {
		t.Errorf("dropped and cut: %v at %d", c, at)
	}
}

// P16.1: Submit's and Noop's Data may be a configuration's bytes: they are none.
func TestOnlyChangesChange(t *testing.T) {
	b := newBoth(0, 0, voters(1))
	e := change(1, 0, voters(4))
	for _, kind := range []int{api.Noop, api.Submit} {
		e.Kind = kind
		b.append(t, e)
		e.Index++
	}
	if c, at := b.log.Conf(); at != 0 || !sameConf(c, voters(1)) {
		t.Errorf("%v at %d", c, at)
	}
	b.around(t)
}

// P16.1: a log may be long.
func TestLongLog(t *testing.T) {
	const many = 100000
	l := rlog.New(0, 0, voters(1))
	for i := int64(1); i <= many; i++ {
		e := noop(i, i/7)
		if i%2 == 0 {
			e = change(i, i/7, voters(int(i)%7+1))
		}
		if l.Append(e) != api.OK {
			t.Fatalf("Append(%d)", i)
		}
		c, at := l.Conf()
		if at != i/2*2 || i > 1 && c.Voters[0] != int(at)%7+1 {
			t.Fatalf("%v at %d behind %d", c, at, i)
		}
	}
	for i := int64(2); i <= many; i += 2 {
		at := (i/2 + 3) / 2 * 2
		if c := l.ConfAt(i/2 + 3); c.Voters[0] != int(at)%7+1 {
			t.Fatalf("ConfAt(%d) = %v", i/2+3, c)
		}
		if l.DropTo(i/2) != api.OK || l.CutFrom(many+1-i/4) != api.OK || len(l.Entries(0, 3)) != 3 {
			t.Fatalf("DropTo(%d), CutFrom", i/2)
		}
	}
	first, _ := l.Base()
	if last, _ := l.Last(); first != many/2 || last != many-many/4 {
		t.Errorf("%d to %d are left", first, last)
	}
}
