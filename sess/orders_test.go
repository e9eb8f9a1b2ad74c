package sess_test

import (
	"math/rand/v2"
	"slices"
	"testing"

	"quillet/api"
	"quillet/sess"
)

// call is a call of Put.
type call struct {
	session, seq int64
	v            api.Verdict
}

// chosen are the calls of which every order is tried.
func chosen() []call {
	return []call{
		{1, 1, api.Verdict{Num: 1}},
		{1, 2, api.Verdict{Num: 2}},
		{1, 9, api.Verdict{Code: 5}},
		{1, 10, api.Verdict{Code: 999}},
		{1, 18, api.Verdict{}},
		{2, 1, api.Verdict{Num: 7}},
		{2, 3, api.Verdict{Code: 1000}},
		{1, 0, api.Verdict{}},
		{1, 9, api.Verdict{Num: 9}},
	}
}

// P13.1 to P13.3: every order of up to five of the chosen calls, each as often as may be; one that is loaded answers the last one too.
func TestEveryOrder(t *testing.T) {
	for _, c := range chosen() {
		t.Run("", func(t *testing.T) {
			t.Parallel()
			everyOrder(t, []call{c})
		})
	}
}

func everyOrder(t *testing.T, script []call) {
	b := newBoth()
	ahead, last := script[:len(script)-1], script[len(script)-1]
	for _, c := range ahead {
		b.table.Put(c.session, c.seq, c.v)
		b.said.putIn(c.session, c.seq, c.v)
	}
	loaded := b.loaded(t)
	b.put(t, last.session, last.seq, last.v)
	loaded.put(t, last.session, last.seq, last.v)
	b.around(t)
	if len(script) == 5 {
		return
	}
	for _, c := range chosen() {
		everyOrder(t, append(slices.Clone(script), c))
	}
}

// dice makes calls of few sessions and of numbers that are near the windows.
type dice struct{ *rand.Rand }

func (d dice) session(b *both, most int64) int64 {
	ids := b.said.sessions()
	switch k := d.IntN(20); {
	case k == 0:
		return []int64{0, -1, top + 1, top, 1 << 33}[d.IntN(5)]
	case k < 12 && len(ids) > 0:
		return ids[d.IntN(len(ids))]
	}
	return 1 + d.Int64N(most)
}

func (d dice) seq(b *both, session int64) int64 {
	high := b.said.highest[session]
	switch k := d.IntN(40); {
	case k == 0:
		return []int64{0, -1, top + 1, top, 1}[d.IntN(5)]
	case k < 4:
		return high + 1 + d.Int64N(20)
	case k < 10:
		return high + 1
	}
	return high - 10 + d.Int64N(13)
}

func (d dice) verdict() api.Verdict {
	switch d.IntN(12) {
	case 0:
		return api.Verdict{Code: []api.Errno{-1, 0, 999, 1000}[d.IntN(4)], Num: []int64{-1, 0, top, top + 1}[d.IntN(4)]}
	case 1, 2:
		return api.Verdict{Code: api.Errno(d.IntN(1000))}
	}
	return api.Verdict{Num: d.Int64N(top + 1)}
}

// P13.1 to P13.3: many calls; what was loaded goes on beside what it was loaded from, or in its place.
func TestManyCalls(t *testing.T) {
	seen := map[api.Errno]int{}
	for seed := range 40 {
		d := dice{rand.New(rand.NewPCG(13, uint64(seed)))}
		b := newBoth()
		other := b
		for range 400 {
			session := d.session(b, []int64{3, 16, 17, 40}[seed%4])
			seq, v := d.seq(b, session), d.verdict()
			if d.IntN(3) == 0 {
				_, e := b.look(t, session, seq)
				seen[e]++
				other.look(t, session, seq)
				continue
			}
			e := b.put(t, session, seq, v)
			seen[e]++
			if other != b {
				if x := other.put(t, session, seq, v); x != e {
					t.Fatalf("Put(%d, %d, %v) = %d, and of the loaded one %d", session, seq, v, e, x)
				}
			}
			switch d.IntN(12) {
			case 0:
				other = b.loaded(t)
			case 1:
				b, other = other, b
			case 2:
				b.around(t)
			}
		}
	}
	for _, e := range []api.Errno{api.OK, api.ErrTwice, api.ErrName, api.ErrFull, api.ErrGone, api.ErrArg} {
		if seen[e] < 100 {
			t.Errorf("the answer %d came %d times alone", e, seen[e])
		}
	}
}

// P13.2: what was put is told as it was put, or is gone for ever; it is never put again.
func TestNeverPutAgain(t *testing.T) {
	for seed := range 20 {
		d := dice{rand.New(rand.NewPCG(131, uint64(seed)))}
		table := sess.New()
		was := map[[2]int64]api.Verdict{}
		gone := map[[2]int64]bool{}
		for range 300 {
			session := 1 + d.Int64N(3)
			seq := max(1, table.Highest(session)-9+d.Int64N(12))
			v := api.Verdict{Num: d.Int64N(top)}
			at := [2]int64{session, seq}
			_, before := was[at]
			if e := table.Put(session, seq, v); e == api.OK {
				if before || gone[at] {
					t.Fatalf("%v is put again", at)
				}
				was[at] = v
			}
			for at, v := range was {
				got, e := table.Look(at[0], at[1])
				in := at[1] > table.Highest(at[0])-8
				if in && (got != v || e != api.ErrTwice) || !in && (got != api.Verdict{} || e != api.ErrGone) || gone[at] && e != api.ErrGone {
					t.Fatalf("%v was put as %v, and is told as %v, %d", at, v, got, e)
				}
				gone[at] = e == api.ErrGone
			}
		}
	}
}
