package wal_test

import (
	"math/rand/v2"
	"slices"
	"testing"

	"quillet/api"
)

// lived is what promise 6.2 asks of the next Open.
type lived struct {
	there []api.Entry // of which just the first ones may be there
	safe  int64       // up to which index they must be
	gone  int64       // up to which index the first ones may have gone
}

// before tells what may be there, if the power goes in a call.
func (l *lived) before(c call) {
	switch c.kind {
	case "Append":
		l.there = append(slices.Clone(l.there), c.es...)
	case "CutFrom":
		l.safe = min(l.safe, c.index-1)
	case "DropTo":
		l.gone = c.index
	case "Reset":
		l.safe = 0
	}
}

// behind tells what is there behind a call that was done; first is the index of the first entry then.
func (l *lived) behind(c call, first int64) {
	l.gone = 0
	switch c.kind {
	case "Sync", "Open":
		l.safe = 0
		if len(l.there) > 0 {
			l.safe = l.there[len(l.there)-1].Index
		}
	case "CutFrom":
		l.there = slices.DeleteFunc(slices.Clone(l.there), func(e api.Entry) bool { return e.Index >= c.index })
	case "DropTo":
		l.there = slices.DeleteFunc(slices.Clone(l.there), func(e api.Entry) bool { return first == 0 || e.Index < first })
	case "Reset":
		l.there = nil
	}
	if len(l.there) == 0 {
		l.safe = 0
	}
}

// check holds what Open has against it, and goes on from there.
func (l *lived) check(t *testing.T, got []api.Entry) {
	t.Helper()
	there := l.there
	for len(there) > 0 && there[0].Index <= l.gone && (len(got) == 0 || there[0].Index != got[0].Index) {
		there = there[1:]
	}
	if len(got) > len(there) || !slices.EqualFunc(got, there[:len(got)], sameEntry) {
		t.Fatalf("Open has %v, which aren't the first ones of %v", got, l.there)
	}
	must := 0
	for _, e := range there {
		if e.Index <= l.safe {
			must++
		}
	}
	if len(got) < must {
		t.Fatalf("Open has %d entries of %v, of which %d were synced", len(got), there, must)
	}
	*l = lived{there: got}
	l.behind(call{kind: "Open"}, 0)
}

// play does calls until one fails, and tells how many were done.
func (x *both) play(t *testing.T, l *lived, calls []call) int {
	t.Helper()
	for i, c := range calls {
		had := *l
		l.before(c)
		e := x.must(t, c)
		switch e {
		case api.OK:
			l.behind(c, x.w.First())
		case api.ErrArg, api.ErrGap:
			*l = had
		default:
			return i
		}
	}
	return len(calls)
}

// keeps is the n-th choice of which of some sectors are kept.
func keeps(n, of int) []bool {
	out := make([]bool, of)
	for i := range out {
		out[i] = n>>i&1 == 1
	}
	return out
}

// other is an entry of the same index as another one, that differs from it.
func other(index int64, size int) api.Entry {
	e := entry(index, size)
	e.Term += 100
	return e
}

// scripts have few sectors loose at a time.
func scripts() map[string][]call {
	open, sync := call{kind: "Open"}, call{kind: "Sync"}
	put := func(es ...api.Entry) call { return call{kind: "Append", es: es} }
	cut := func(i int64) call { return call{kind: "CutFrom", index: i} }
	drop := func(i int64) call { return call{kind: "DropTo", index: i} }
	reset := call{kind: "Reset"}
	// A great one is synced ahead of the next, so that every choice of sectors can be tried.
	safe := func(es []api.Entry, more ...call) []call {
		calls := []call{open}
		for _, e := range es {
			calls = append(calls, put(e), sync)
		}
		return append(calls, more...)
	}
	return map[string][]call{
		"small ones":                  {open, put(entries(1, 3, 0, 30)...), sync, put(entry(4, 40)), put(entries(5, 1, 2)...), sync},
		"never synced":                {open, put(entries(4, 0, 50, 3, 20)...)},
		"a full one":                  {open, put(entry(1, at)), put(entry(2, 0))},
		"into a new one":              {open, put(entry(1, below)), sync, put(entries(2, 20, 0, 30)...), sync, put(entry(5, 9))},
		"a new one behind":            {open, put(entry(1, at)), sync, put(entries(2, 0, 30)...), put(entry(4, 3)), sync},
		"two to sync":                 {open, put(entry(1, below)), sync, put(entries(2, 20, 5, 40)...), sync, sync},
		"cut, and others":             {open, put(entries(1, 3, 40, 3)...), sync, cut(2), put(other(2, 3), other(3, 40)), sync},
		"cut what isn't synced":       {open, put(entries(1, 3, 40, 3)...), cut(3), put(other(3, 20)), cut(2), put(other(2, 50)), sync},
		"cut at a segment":            {open, put(entry(1, at)), sync, put(entries(2, 20, 1)...), cut(2), put(other(2, 1), other(3, 1))},
		"cut segments":                safe(entries(1, 3, at, at, 0), cut(2), put(other(2, 30), other(3, 0)), sync),
		"cut all":                     safe(entries(1, 3, at, 4), cut(1), put(other(9, 3), other(10, 40)), sync),
		"drop":                        safe(entries(1, 0, at, at, 30, 1), put(entry(6, 3)), drop(2), put(entry(7, 40)), drop(3), sync),
		"drop what was synced":        {open, put(entries(1, 3, at)...), sync, put(entries(3, 30, 1)...), drop(2), put(entry(5, 3)), sync},
		"drop all":                    safe(entries(1, 3, at, 2), drop(3), put(other(2, 30)), sync, drop(2), drop(2)),
		"reset":                       safe(entries(1, 3, at, at, 2), reset, put(other(3, 3), other(4, 40)), sync, reset, reset),
		"reset to a lower one":        safe(entries(9, at, at, 2), reset, put(other(8, 3), other(9, 40)), sync),
		"opened again":                {open, put(entries(1, 3, 40)...), open, put(entry(3, 20)), open, cut(3), open, drop(9), open},
		"refused ones between":        {open, put(entry(1, 3)), put(entry(3, 3)), sync, put(entry(2, 2049)), put(entry(2, 40)), put(entry(1, 3)), sync},
		"one of the greatest":         {open, put(entry(1, 3)), sync, put(entry(2, 150)), sync},
		"of zeros":                    {open, put(api.Entry{Index: 1, Data: make([]byte, 90)}), put(api.Entry{Index: 2, Data: make([]byte, 60)}), sync},
		"data that look like records": {open, put(api.Entry{Index: 1, Data: recordOf(entry(2, 3))}), put(api.Entry{Index: 2, Data: append(make([]byte, 18), recordOf(entry(2, 3))...)}), sync},
	}
}

// P6.1, P6.2: the power goes at every step, with every choice of kept sectors; then at every step of the Open behind that.
func TestPowerGoesAtEveryStep(t *testing.T) {
	for what, calls := range scripts() {
		t.Run(what, func(t *testing.T) {
			for n, done := 1, -1; done < len(calls); n++ {
				for choice, loose := 0, 0; choice < 1<<loose; choice++ {
					for again, ended := 1, false; !ended; again++ {
						var l lived
						x := newBoth()
						x.fail(n)
						done = x.play(t, &l, calls)
						loose = x.d.Loose()
						if loose > 9 {
							t.Fatalf("%d sectors are loose: too many for this test", loose)
						}
						x.crash(t, keeps(choice, loose))
						x.fail(again)
						if ended = x.must(t, call{kind: "Open"}) == api.OK; !ended {
							x.crash(t, keeps(again, x.d.Loose()))
							x.fail(0)
							x.ok(t, call{kind: "Open"})
						}
						l.check(t, x.w.Entries())
						x.fail(0)
						x.ok(t, call{kind: "Open"})
						l.check(t, x.w.Entries())
					}
				}
			}
		})
	}
}

// P6.2: many sectors are loose; each one of them is lost alone, or kept alone, or all from it on are lost, or all ahead.
func TestLongOnesAreLostInPart(t *testing.T) {
	calls := []call{{kind: "Open"}, {kind: "Append", es: entries(1, 30, 1)}, {kind: "Sync"}, {kind: "Append", es: entries(3, 100, 2048, 0, at, 5, 2048)}}
	sectors := len(fileOf(entries(3, 100, 2048, 0, at, 5, 2048)...)) / 32
	for i := range sectors + 1 {
		for how, kept := range []func(k int) bool{func(k int) bool { return k != i }, func(k int) bool { return k == i }, func(k int) bool { return k < i }, func(k int) bool { return k >= i }} {
			var l lived
			x := newBoth()
			x.play(t, &l, calls)
			if x.d.Loose() != sectors {
				t.Fatalf("%d loose, not %d", x.d.Loose(), sectors)
			}
			keep := make([]bool, sectors)
			for k := range keep {
				keep[k] = kept(k)
			}
			x.crash(t, keep)
			x.ok(t, call{kind: "Open"})
			l.check(t, x.w.Entries())
			if how == 0 && i == sectors && x.w.Last() != 8 {
				t.Errorf("with all kept: %d", x.w.Last())
			}
			x.append(t, entries(x.w.Last()+1, 3, at, 1)...)
			x.ok(t, call{kind: "Open"})
		}
	}
}

// anyCall is some call that fits what is there, or nearly.
func anyCall(r *rand.Rand, x *both) call {
	first, last := x.w.First(), x.w.Last()
	sizes := []int{0, 1, 18, 19, 20, 50, 80, below - 1, below, at, beyond, 2048}
	place := first - 2 + r.Int64N(last-first+5)
	switch r.IntN(12) {
	case 0, 1, 2, 3, 4:
		next := last + 1
		if last == 0 {
			next = 1 + r.Int64N(40)
		}
		if r.IntN(15) == 0 {
			next += r.Int64N(3) - 1
		}
		var es []api.Entry
		for i := range 1 + r.IntN(3) {
			e := entry(next+int64(i), sizes[r.IntN(len(sizes))])
			e.Term = r.Int64N(1 << 20)
			es = append(es, e)
		}
		return call{kind: "Append", es: es}
	case 5, 6, 7:
		return call{kind: "Sync"}
	case 8:
		return call{kind: "CutFrom", index: max(place, last-r.Int64N(4))}
	case 9:
		return call{kind: "DropTo", index: min(place, first+r.Int64N(6))}
	case 10:
		return call{kind: []string{"CutFrom", "DropTo"}[r.IntN(2)], index: place}
	}
	return call{kind: []string{"Reset", "Open", "Open"}[r.IntN(3)]}
}

// P6.1, P6.2: long runs with many losses of power.
func TestLongRuns(t *testing.T) {
	for seed := range 150 {
		r := rand.New(rand.NewPCG(6, uint64(seed)))
		x, l := newBoth(), &lived{}
		x.ok(t, call{kind: "Open"})
		for range 40 {
			x.fail(r.IntN(40))
			for x.w != nil {
				c := anyCall(r, x)
				if x.play(t, l, []call{c}) == 0 || r.IntN(30) == 0 {
					break
				}
			}
			keep := make([]bool, x.d.Loose())
			odds := r.IntN(20)
			for i := range keep {
				keep[i] = r.IntN(20) < odds || odds == 19
			}
			x.crash(t, keep)
			x.fail(r.IntN(5))
			for x.must(t, call{kind: "Open"}) != api.OK {
				x.crash(t, keep)
				x.fail(r.IntN(5))
			}
			l.check(t, x.w.Entries())
		}
	}
}
