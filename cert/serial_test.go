package cert_test

import (
	"fmt"
	"math/rand/v2"
	"slices"
	"testing"

	"quillet/api"
	"quillet/cert"
	"quillet/serial"
)

// written are the keys that transactions write.
func written(h []api.Done) []float64 {
	var keys []float64
	for _, x := range h {
		keys = append(keys, x.Sub.Writes...)
	}
	slices.Sort(keys)
	return slices.Compact(keys)
}

// version is the number of the one that had written the key last when a transaction read it.
func version(h []api.Done, x api.Done, key float64) int64 {
	n := int64(0)
	for _, y := range h {
		if y.Num <= x.Sub.Snap && writes(y.Sub, key) {
			n = max(n, y.Num)
		}
	}
	return n
}

// mustPrecede says whether a must be done ahead of b: it writes what b writes later or has read, or has read what b has written over.
func mustPrecede(a, b api.Done, keys []float64) bool {
	for _, key := range keys {
		switch {
		case writes(a.Sub, key) && writes(b.Sub, key) && a.Num < b.Num,
			writes(a.Sub, key) && reads(b.Sub, key) && b.Sub.Snap >= a.Num,
			reads(a.Sub, key) && writes(b.Sub, key) && a.Sub.Snap < b.Num:
			return true
		}
	}
	return false
}

// order is places of transactions, one behind the other, so that all come behind those that must precede them; false: there is none.
func order(h []api.Done) ([]int, bool) {
	keys := written(h)
	waits := make([]int, len(h)) // for how many that haven't come
	behind := make([][]int, len(h))
	for i := range h {
		for j := range h {
			if i != j && mustPrecede(h[i], h[j], keys) {
				waits[j]++
				behind[i] = append(behind[i], j)
			}
		}
	}
	var come []int
	for i := range h {
		if waits[i] == 0 {
			come = append(come, i)
		}
	}
	for k := 0; k < len(come); k++ {
		for _, j := range behind[come[k]] {
			if waits[j]--; waits[j] == 0 {
				come = append(come, j)
			}
		}
	}
	return come, len(come) == len(h)
}

// replay does transactions one behind the other, and tells whether each reads what it has read.
func replay(h []api.Done, places []int) bool {
	keys := written(h)
	state := map[float64]int64{}
	for _, i := range places {
		for _, key := range keys {
			if reads(h[i].Sub, key) && state[key] != version(h, h[i], key) {
				return false
			}
		}
		for _, key := range h[i].Sub.Writes {
			state[key] = h[i].Num
		}
	}
	return true
}

// anyReplay tries every order of a few transactions.
func anyReplay(h []api.Done) bool {
	places := make([]int, 0, len(h))
	var try func() bool
	try = func() bool {
		if len(places) == len(h) {
			return replay(h, places)
		}
		for i := range h {
			if !slices.Contains(places, i) {
				places = append(places, i)
				if try() {
					return true
				}
				places = places[:len(places)-1]
			}
		}
		return false
	}
	return try()
}

// inOrder asks layer 12 whether those that have committed could have been done one behind the other.
func inOrder(t *testing.T, conf cert.Conf, h []api.Done) {
	t.Helper()
	nums, ok := serial.Order(h)
	if !serial.Right(h) || !ok || !serial.Reads(h, nums) {
		t.Fatalf("%v: layer 12 has no order of %v: %v, stuck are %v", conf, h, nums, serial.Stuck(h))
	}
}

// serial asks of all that have committed whether they could have been done one behind the other; layer 12 knows histories of at most 64.
func (b *both) serial(t *testing.T) {
	t.Helper()
	inOrder(t, b.conf, b.done[:min(64, len(b.done))])
	places, ok := order(b.done)
	if !ok || !replay(b.done, places) {
		t.Fatalf("%v: could not have been done one behind the other: %v", b.conf, b.done)
	}
}

// The asking itself: what could not have been done so is told.
func TestAskingForAnOrder(t *testing.T) {
	done := func(ss ...api.Sub) []api.Done {
		var h []api.Done
		for i, s := range ss {
			h = append(h, api.Done{Num: int64(i + 1), Sub: s})
		}
		return h
	}
	for name, c := range map[string]struct {
		h  []api.Done
		ok bool
	}{
		"none":               {nil, true},
		"one":                {done(on(0, r(1), w(1))), true},
		"a skew":             {done(on(0, r(1), w(2)), on(0, r(2), w(1))), false},
		"a skew by spans":    {done(on(0, w(2), sp(shut(0, 1))), on(0, w(1), sp(shut(2, 3)))), false},
		"one way":            {done(on(0, r(1), w(2)), on(0, w(1))), true},
		"the other way":      {done(on(0, w(1)), on(0, r(1), w(2))), true},
		"a lost update":      {done(on(0, r(1), w(1)), on(0, r(1), w(1))), false},
		"one who only reads": {done(on(0, w(1)), on(0, r(1), w(2)), on(1, r(1, 2))), false},
		"three round":        {done(on(0, r(1), w(2)), on(0, r(2), w(3)), on(0, r(3), w(1))), false},
		"three in a row":     {done(on(0, r(1), w(2)), on(0, r(2), w(3)), on(0, r(3), w(4))), true},
	} {
		places, ok := order(c.h)
		if ok != c.ok || ok && !replay(c.h, places) || anyReplay(c.h) != c.ok {
			t.Errorf("%s: %v, %v, %v", name, places, ok, anyReplay(c.h))
		}
		if nums, ok := serial.Order(c.h); ok != c.ok || serial.Reads(c.h, nums) != c.ok {
			t.Errorf("%s: by layer 12: %v, %v", name, nums, ok)
		}
	}
}

// shapes are small submissions, which meet each other in many ways.
func shapes() []api.Sub {
	var out []api.Sub
	for _, reading := range []part{r(), r(1), r(2), r(1, 2), sp(shut(2, 3))} {
		for _, writing := range []part{w(), w(1), w(2), w(3)} {
			out = append(out, on(0, reading, writing))
		}
	}
	return out
}

// P11.3: every choice of three small submissions, on every Snap, by few and by many that are kept.
func TestFewCouldHaveBeenDone(t *testing.T) {
	for _, conf := range []cert.Conf{{Keep: 1, Old: 1}, {Keep: 1, Old: 3}, {Keep: 2, Old: 2}, {Keep: 4}} {
		t.Run(fmt.Sprint(conf), func(t *testing.T) {
			t.Parallel()
			everyChoice(t, conf, nil, cert.New(conf))
		})
	}
}

// everyChoice goes on from a Cert, behind those that have committed; each choice is decided by one that is loaded.
func everyChoice(t *testing.T, conf cert.Conf, h []api.Done, from *cert.Cert) {
	for _, s := range shapes() {
		for snap := range int64(len(h) + 1) {
			s.Snap = snap
			c := again(t, conf, from)
			v := c.Decide(s)
			if v.Code != api.OK {
				continue
			}
			all := append(slices.Clone(h), api.Done{Num: v.Num, Sub: s})
			inOrder(t, conf, all)
			if !anyReplay(all) {
				t.Fatalf("%v: could not have been done one behind the other: %v", conf, all)
			}
			if len(all) < 3 {
				everyChoice(t, conf, all, c)
			}
		}
	}
}

// P11.3: of 64 that have committed, as many as layer 12 takes, Order finds an order, and Reads holds. What was refused would have spoilt that: always by ErrWrite, at times by ErrDanger.
func TestLayer12HasAnOrder(t *testing.T) {
	for i, conf := range confs() {
		t.Run(fmt.Sprint(conf), func(t *testing.T) {
			t.Parallel()
			round := 0
			for seed := range 6 {
				d := dice{rand.New(rand.NewPCG(1112, uint64(10*seed+i))), keyPools()[seed%3]}
				round += committed64(t, d, conf)
			}
			if round == 0 {
				t.Errorf("nothing that was refused would have had no order")
			}
		})
	}
}

// committed64 lets 64 commit, and tells how many that were ErrDanger would have had no order.
func committed64(t *testing.T, d dice, conf cert.Conf) (round int) {
	c := cert.New(conf)
	var h []api.Done
	for len(h) < 64 {
		s := d.sub(c.Count(), c.Horizon())
		all := append(slices.Clone(h), api.Done{Num: c.Count() + 1, Sub: s})
		switch v := c.Decide(s); v.Code {
		case api.OK:
			h = all
		case api.ErrWrite:
			if serial.Right(all) {
				t.Fatalf("%v: %v is refused by ErrWrite, behind %v", conf, s, h)
			}
		case api.ErrDanger:
			if !serial.Right(all) {
				t.Fatalf("%v: %v isn't ErrWrite, behind %v", conf, s, h)
			}
			if len(serial.Stuck(all)) > 0 {
				round++
			}
		}
	}
	inOrder(t, conf, h)
	return round
}

// apart says whether nobody beside a submission has read or written one of its keys.
func apart(h []api.Done, s api.Sub) bool {
	for _, x := range h {
		if x.Num > s.Snap && touches(x.Sub, s) {
			return false
		}
	}
	return true
}

// touches says whether a key is of both, read or written.
func touches(a, b api.Sub) bool {
	for _, f := range keysOf(a) {
		for _, g := range keysOf(b) {
			if f.Lo <= g.Hi && g.Lo <= f.Hi {
				return true
			}
		}
	}
	return false
}

// keysOf is what a submission reads and writes, as spans.
func keysOf(s api.Sub) []api.Span {
	out := slices.Clone(s.Spans)
	for _, key := range append(slices.Clone(s.Reads), s.Writes...) {
		out = append(out, shut(key, key))
	}
	return out
}

// P11.2: what touches nothing that one beside it has touched commits, on every Snap from the horizon on.
func TestApartCommits(t *testing.T) {
	for _, conf := range []cert.Conf{roomy, slim, {Keep: 2, Old: 4}, {Keep: 1, Old: 0}, {Keep: 3, Old: 2}, {Keep: 32, Old: 64}} {
		b := newBoth(conf)
		// Touched are 0 to 10 and [20, 25], some of it with the mark.
		b.commits(t, on(0, w(1)), on(0, r(1), w(2)), on(2, r(3), w(3)), on(2, r(3, 4), w(4)), on(4, w(5), sp(shut(6, 10), shut(20, 25))), on(4, r(0)), on(6, w(7)))
		for snap := range int64(8) {
			for _, p := range [][]part{{}, {r(-1, 11), w(19)}, {w(up(25), 30)}, {sp(shut(up(10), down(20)))}, {r(26), w(26), sp(shut(26, inf))}, {w(-inf, -1)}, {sp(shut(-inf, -least))}} {
				s := on(snap, p...)
				v := b.cert.Count() + 1
				if snap < b.cert.Horizon() {
					v = old
				}
				if !apart(b.done, s) {
					t.Fatalf("%v isn't apart", s)
				}
				b.would(t, s, v)
			}
		}
	}
}
