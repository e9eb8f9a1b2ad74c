package cert_test

import (
	"fmt"
	"math/rand/v2"
	"slices"
	"testing"

	"quillet/api"
	"quillet/cert"
	"quillet/sub"
)

// chosen are the submissions of which every order is tried.
func chosen() []api.Sub {
	return []api.Sub{
		on(0, r(1), w(2)),
		on(0, r(2), w(1)),
		on(0, w(3)),
		on(0, r(3), w(4)),
		on(0, w(5), sp(shut(1, 3))),
		on(1, r(5), w(6)),
		on(1, r(4), w(3)),
		on(1, w(1), sp(shut(4, 6))),
		on(2, r(1), w(2)),
		on(2, w(4)),
		on(3, r(2, 6)),
		on(0, r(2, 1)),
	}
}

// P11.1, P11.3, P11.4: every order of up to four of the chosen submissions, each as often as may be; one that is loaded decides the last one too.
func TestEveryOrder(t *testing.T) {
	for _, conf := range []cert.Conf{{Keep: 1, Old: 0}, {Keep: 1, Old: 1}, {Keep: 1, Old: 2}, {Keep: 1, Old: 4}, {Keep: 2, Old: 2}, {Keep: 9}} {
		t.Run(fmt.Sprint(conf), func(t *testing.T) {
			t.Parallel()
			everyOrder(t, conf, nil)
		})
	}
}

func everyOrder(t *testing.T, conf cert.Conf, script []api.Sub) {
	for _, s := range chosen() {
		b := newBoth(conf)
		// What comes ahead of the last one was held against the words when it was the last one.
		for _, x := range script {
			b.blindly(x)
		}
		loaded := b.loaded(t)
		if v, x := b.do(t, s), loaded.do(t, s); v != x {
			t.Fatalf("%v, %v: %v, and by the loaded one %v", conf, script, v, x)
		}
		b.serial(t)
		if len(script) < 3 {
			everyOrder(t, conf, append(slices.Clone(script), s))
		}
	}
}

// dice makes submissions of few keys, so that they meet.
type dice struct {
	*rand.Rand
	keys []float64
}

func (d dice) some(most int) []float64 {
	var out []float64
	for range d.IntN(most + 1) {
		out = append(out, d.keys[d.IntN(len(d.keys))])
	}
	return out
}

func (d dice) spans(most int) []api.Span {
	var out []api.Span
	for range d.IntN(most + 1) {
		lo := d.IntN(len(d.keys))
		hi := min(lo+d.IntN(4), len(d.keys)-1)
		out = append(out, api.Span{Lo: d.keys[lo], Hi: d.keys[hi], LoOpen: d.IntN(4) == 0, HiOpen: d.IntN(4) == 0})
	}
	return out
}

// sub is mostly right, and mostly of a Snap that isn't too old.
func (d dice) sub(count, horizon int64) api.Sub {
	s := api.Sub{Session: d.Int64N(9) + 1, Seq: d.Int64N(1<<40) + 1, Reads: d.some(2), Writes: d.some(2)}
	if d.IntN(2) == 0 {
		s.Spans = d.spans(2)
	}
	switch d.IntN(12) {
	case 0:
		s.Snap = count + d.Int64N(2)
	case 1:
		s.Snap = max(0, horizon-d.Int64N(3))
	case 2:
		s.Snap = horizon + d.Int64N(count-horizon+1)
	case 3:
		s.Reads, s.Writes, s.Spans = d.some(16), d.some(3), d.spans(8)
		s.Snap = max(0, count-d.Int64N(6))
	default:
		s.Snap = max(0, count-d.Int64N(6))
	}
	if d.IntN(20) == 0 {
		return s // as it is: its keys don't rise, perhaps, and its spans are open
	}
	s, _ = sub.Canon(s)
	return s
}

// confs are of little, some and much room.
func confs() []cert.Conf {
	return []cert.Conf{{Keep: 1, Old: 0}, {Keep: 1, Old: 3}, {Keep: 1, Old: 64}, {Keep: 2, Old: 8}, {Keep: 4, Old: 5}, {Keep: 4, Old: 64}, {Keep: 8, Old: 16}, {Keep: 32, Old: 64}, {Keep: 99, Old: 99}, {Keep: -3, Old: -3}}
}

// keyPools are few keys and more of them, edges among them.
func keyPools() [][]float64 {
	return [][]float64{
		{1, 2, 3, 4},
		{-inf, -1, -least, 0, least, 1, up(1), 2, inf},
		append(upTo(0, 30), upTo(100, 30)...),
	}
}

// P11.1 to P11.4: many submissions; what was loaded goes on in the place of what it was loaded from, or beside it.
func TestManySubmissions(t *testing.T) {
	t.Parallel()
	seen := map[api.Errno]int{}
	for seed := range 60 {
		pools := keyPools()
		d := dice{rand.New(rand.NewPCG(11, uint64(seed))), pools[seed%len(pools)]}
		b := newBoth(confs()[seed%len(confs())])
		other := b
		for range 150 {
			s := d.sub(b.cert.Count(), b.cert.Horizon())
			free := s.Session > 0 && sub.Check(s) == api.OK && s.Snap >= b.cert.Horizon() && s.Snap <= b.cert.Count() && apart(b.done, s)
			v := b.do(t, s)
			seen[v.Code]++
			if free && v.Code != api.OK {
				t.Fatalf("%v: %v touches nothing, and is %v, behind %v", b.conf, s, v, b.done)
			}
			if other != b {
				if x := other.do(t, s); x != v {
					t.Fatalf("%v: %v is %v, and by the loaded one %v", b.conf, s, v, x)
				}
			}
			switch d.IntN(8) {
			case 0:
				other = b.loaded(t)
			case 1:
				other.done = b.done
				b, other = other, b
			}
		}
		b.serial(t)
	}
	for _, e := range []api.Errno{api.OK, api.ErrOrder, api.ErrYoung, api.ErrOld, api.ErrWrite, api.ErrDanger} {
		if seen[e] < 50 {
			t.Errorf("the verdict %d came %d times alone", e, seen[e])
		}
	}
}
