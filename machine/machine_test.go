package machine_test

import (
	"math"
	"slices"
	"testing"

	"quillet/api"
	"quillet/cert"
	"quillet/machine"
)

var roomy = cert.Conf{Keep: 32, Old: 64}

// P14.1: the document's example.
func TestExample(t *testing.T) {
	m := machine.New(roomy)
	s := of(1, 1, 0, 1, 2)
	want := answer{1, 1, api.Verdict{Num: 1}, true}
	if a, e := m.Apply(api.Entry{Index: 1, Kind: api.Submit, Data: encoded(t, s)}); a != want || e != api.OK {
		t.Errorf("at 1: %v, %d", a, e)
	}
	want.Fresh = false
	if a, e := m.Apply(api.Entry{Index: 2, Kind: api.Submit, Data: encoded(t, s)}); a != want || e != api.OK {
		t.Errorf("at 2: %v, %d", a, e)
	}
	if a, e := m.Apply(api.Entry{Index: 5, Kind: api.Submit, Data: encoded(t, s)}); a != (answer{}) || e != api.ErrGap {
		t.Errorf("at 5: %v, %d", a, e)
	}
	if m.Index() != 2 || m.Count() != 1 {
		t.Errorf("the index is %d, and %d have committed", m.Index(), m.Count())
	}
}

// P14.1: a new Machine has nothing, whatever its Conf; no two share.
func TestNew(t *testing.T) {
	for _, conf := range confs() {
		b := newBoth(conf)
		b.told(t, "new")
		b.around(t)
		if b.m.Index() != 0 || b.m.Count() != 0 || b.m.Horizon() != 0 {
			t.Errorf("%v: %d, %d, %d", conf, b.m.Index(), b.m.Count(), b.m.Horizon())
		}
		other := newBoth(conf)
		b.fresh(t, of(1, 1, 0, 1, 1), 1)
		other.told(t, "another one goes on")
		other.around(t)
	}
}

// P14.1: an index that isn't the one behind the last; nothing is done.
func TestGap(t *testing.T) {
	b := newBoth(roomy)
	for range 3 {
		last := b.m.Index()
		for _, index := range []int64{last, last - 1, last + 2, last + 3, 0, -1, 99, top, top + 1, math.MaxInt64, math.MinInt64} {
			if index == last+1 {
				continue
			}
			for _, kind := range []int{api.Noop, api.Submit, api.Change, -1, 9} {
				for _, data := range [][]byte{nil, {1}, encoded(t, of(7, 7, 0, 1, 2))} {
					if _, e := b.apply(t, api.Entry{Index: index, Kind: kind, Data: data}); e != api.ErrGap {
						t.Errorf("behind %d, at %d: %d", last, index, e)
					}
				}
			}
		}
		b.around(t)
		b.takes(t, api.Noop, nil)
	}
	b.fresh(t, of(7, 7, 0, 1, 2), 1)
}

// P14.1: entries of which nothing is decided go by, each with its index.
func TestOtherKinds(t *testing.T) {
	b := newBoth(roomy).fresh(t, of(1, 1, 0, 1, 2), 1)
	for _, kind := range []int{api.Noop, api.Change, -1, 3, 257, math.MaxInt32, math.MinInt32, math.MaxInt, math.MinInt} {
		for _, s := range []api.Sub{of(2, 1, 0, 3, 4), of(1, 1, 0, 1, 2), of(1, 2, 9, 0, 0)} {
			last := b.m.Index()
			if a := b.takes(t, kind, encoded(t, s)); a != (answer{}) || b.m.Index() != last+1 {
				t.Errorf("the kind %d: %v, and the index is %d", kind, a, b.m.Index())
			}
		}
		b.takes(t, kind, nil)
	}
	b.around(t)
	b.fresh(t, of(2, 1, 0, 3, 4), 2)
}

// P14.1: Data that aren't a submission's bytes.
func TestNoSubmission(t *testing.T) {
	good := encoded(t, api.Sub{Session: 2, Seq: 3, Reads: []float64{1, 2}, Spans: []api.Span{{Lo: 4, Hi: 5}}, Writes: []float64{3}})
	wrong := [][]byte{nil, {}, {0}, []byte("noise"), make([]byte, 6), make([]byte, 5000),
		nums(0, 1, 0, 0, 0, 0), nums(1, 0, 0, 0, 0, 0), nums(1, 1, -1, 0, 0, 0), nums(top+1, 1, 0, 0, 0, 0), nums(1, top+1, 0, 0, 0, 0), nums(1, 1, top+1, 0, 0, 0),
		nums(1, 1, 0, 0, 0), nums(1, 1, 0, 17, 0, 0), nums(1, 1, 0, 0, 9, 0), nums(1, 1, 0, 0, 0, 0, 0), append(slices.Clone(good), 0)}
	for n := range good {
		wrong = append(wrong, good[:n])
	}
	b := newBoth(roomy)
	for i, data := range wrong {
		if a := b.takes(t, api.Submit, data); a != (answer{}) || b.m.Index() != int64(i+1) {
			t.Errorf("%v: %v, and the index is %d", data, a, b.m.Index())
		}
	}
	b.around(t)
	if a := b.takes(t, api.Submit, good); a != (answer{2, 3, api.Verdict{Num: 1}, true}) {
		t.Errorf("the right one: %v", a)
	}
	// The least and the greatest that are right.
	b = newBoth(roomy)
	b.takes(t, api.Submit, nums(1, 1, 0, 0, 0, 0))
	b.takes(t, api.Submit, nums(top, top, 0, 0, 0, 0))
	if a := b.takes(t, api.Submit, nums(top, top-1, top, 0, 0, 0)); a != (answer{top, top - 1, verdict(young), true}) {
		t.Errorf("the greatest: %v", a)
	}
}

// P14.1: the term is let be.
func TestTerms(t *testing.T) {
	b := newBoth(roomy)
	for i, term := range []int64{0, 1, -1, top, top + 1, math.MaxInt64, math.MinInt64} {
		e := b.next(api.Submit, encoded(t, of(1, int64(i+1), int64(i), 1, 1)))
		e.Term = term
		if a, _ := b.apply(t, e); a.Verdict != verdict(int64(i+1)) {
			t.Errorf("of the term %d: %v", term, a)
		}
	}
}

// P14.1, P14.3: what was decided stays so, whatever is asked under its number, and whatever would be decided by now.
func TestTwice(t *testing.T) {
	b := newBoth(roomy)
	b.fresh(t, of(1, 1, 0, 1, 2), 1)
	b.fresh(t, of(2, 1, 0, 2, 1), danger)
	b.fresh(t, of(3, 1, 0, 0, 2), clash)
	b.fresh(t, of(4, 1, 2, 0, 3), young)
	for range 2 {
		b.stale(t, of(1, 1, 0, 1, 2), 1)
		b.stale(t, of(1, 1, 0, 9, 9), 1)
		b.stale(t, of(1, 1, 99, 2, 1), 1)
		b.stale(t, of(2, 1, 0, 2, 1), danger)
		b.stale(t, of(2, 1, 1, 8, 8), danger)
		b.stale(t, of(3, 1, 1, 0, 7), clash)
		b.stale(t, of(4, 1, 0, 0, 3), young)
	}
	b.fresh(t, of(1, 2, 1, 1, 3), 2)
	b.stale(t, of(4, 1, 2, 0, 3), young) // by now it would commit
	b.fresh(t, of(4, 2, 2, 0, 3), 3)     // under another number it does
	b.fresh(t, of(5, 1, 3, 0, 3), 4)     // and of another session, with the number of others
	b.around(t)
}

// P14.1, P14.3: a number that has fallen out of the window is told as gone, whether it was decided or not.
func TestGone(t *testing.T) {
	b := newBoth(roomy)
	b.fresh(t, of(1, 3, 0, 0, 1), 1)
	b.fresh(t, of(1, 11, 1, 0, 1), 2)
	b.stale(t, of(1, 3, 2, 0, 1), gone)
	b.stale(t, of(1, 2, 2, 0, 1), gone)
	b.stale(t, of(1, 1, 99, 0, 1), gone)
	b.fresh(t, of(1, 4, 2, 0, 1), 3)
	b.stale(t, of(1, 4, 2, 0, 1), 3)
	b.fresh(t, of(1, 10, 0, 0, 1), clash)
	b.fresh(t, of(2, 3, 3, 0, 1), 4)
	b.fresh(t, of(1, top, 4, 0, 1), 5)
	b.stale(t, of(1, 11, 5, 0, 1), gone)
	b.stale(t, of(1, top-8, 5, 0, 1), gone)
	b.fresh(t, of(1, top-7, 5, 0, 1), 6)
	// What was refused moves the window, too.
	b.fresh(t, of(2, 30, 99, 0, 1), young)
	b.stale(t, of(2, 3, 6, 0, 1), gone)
	b.stale(t, of(2, 30, 6, 0, 1), young)
	b.around(t)
}

// P14.1: how many sessions there may be; what is refused for that isn't decided.
func TestFull(t *testing.T) {
	b := newBoth(roomy)
	for id := int64(1); id <= 16; id++ {
		v := id / 2
		if id%2 == 1 {
			v = young // a session whose only submission was refused is one
			b.fresh(t, of(10*id, 20, 999, 0, 0), v)
		} else {
			b.fresh(t, of(10*id, 20, 0, 0, float64(id)), v)
		}
	}
	for _, id := range []int64{1, 11, 161, 170, top} {
		for _, seq := range []int64{1, 20, top} {
			b.stale(t, of(id, seq, 0, 0, 77), full)
			b.stale(t, of(id, seq, 999, 0, 77), full)
		}
	}
	b.stale(t, of(10, 20, 0, 0, 77), young)
	b.stale(t, of(20, 20, 0, 0, 77), 1)
	b.stale(t, of(20, 12, 0, 0, 77), gone)
	b.fresh(t, of(160, 13, 0, 0, 77), 9)
	b.around(t)
}

// P14.1: what the Cert knows by its Conf alone decides; the horizon is told.
func TestHorizon(t *testing.T) {
	b := newBoth(cert.Conf{Keep: 1, Old: 2})
	b.fresh(t, of(1, 1, 0, 1, 2), 1)
	b.fresh(t, of(1, 2, 1, 1, 2), 2)
	b.fresh(t, of(1, 3, 0, 0, 3), 3)
	if b.m.Horizon() != 0 {
		t.Errorf("the horizon is %d", b.m.Horizon())
	}
	b.fresh(t, of(1, 4, 3, 0, 4), 4)
	b.fresh(t, of(1, 5, 4, 0, 5), 5)
	if b.m.Horizon() != 4 || b.m.Count() != 5 {
		t.Errorf("the horizon is %d, of %d", b.m.Horizon(), b.m.Count())
	}
	b.fresh(t, of(1, 6, 3, 0, 9), old)
	b.stale(t, of(1, 6, 4, 0, 9), old)
	b.fresh(t, of(1, 7, 4, 0, 9), 6)
}

// P14.1: the greatest numbers: the count, and the index, behind which the log goes on.
func TestGreatest(t *testing.T) {
	b := loads(t, "greatest", roomy, top, halves{whole(nums(top-1, 0, 0, 0, 0, 0, 0)), whole(nums(0))}.bytes())
	b.fresh(t, of(1, 1, 0, 1, 1), top)
	b.fresh(t, of(1, 2, top, 1, 1), many)
	b.stale(t, of(1, 2, top, 1, 1), many)
	b.stale(t, of(1, 1, 0, 1, 1), top)
	if b.m.Index() != top+4 || b.m.Count() != top {
		t.Errorf("the index is %d, of %d", b.m.Index(), b.m.Count())
	}
	if _, e := b.apply(t, api.Entry{Index: top}); e != api.ErrGap {
		t.Errorf("another one of the greatest index: %d", e)
	}
}
