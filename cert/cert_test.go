package cert_test

import (
	"fmt"
	"math"
	"slices"
	"testing"

	"quillet/api"
	"quillet/cert"
	"quillet/sub"
)

// roomy keeps all that a short script commits.
var roomy = cert.Conf{Keep: 9, Old: 9}

// P11.1: nothing has committed.
func TestNew(t *testing.T) {
	for _, keep := range []int{math.MinInt, -1, 0, 1, 2, 31, 32, 33, 1000, math.MaxInt} {
		for _, most := range []int{math.MinInt, -1, 0, 1, 2, 63, 64, 65, 1000, math.MaxInt} {
			b := newBoth(cert.Conf{Keep: keep, Old: most})
			b.told(t, "New")
			if b.cert.Count() != 0 || b.cert.Horizon() != 0 || len(b.cert.Recent()) != 0 || string(b.cert.Bytes()) != "\x00\x00\x00\x00\x00\x00\x00" {
				t.Errorf("New(%d, %d): %d, %d, %v, %v", keep, most, b.cert.Count(), b.cert.Horizon(), b.cert.Recent(), b.cert.Bytes())
			}
		}
	}
}

// P11.1: how many recent ones there are.
func TestKeep(t *testing.T) {
	for keep, most := range map[int]int{math.MinInt: 1, -7: 1, -1: 1, 0: 1, 1: 1, 2: 2, 3: 3, 31: 31, 32: 32, 33: 32, 64: 32, 1000: 32, math.MaxInt: 32} {
		b := newBoth(cert.Conf{Keep: keep, Old: 64})
		for i := range 40 {
			b.commits(t, on(int64(i), w(float64(i))))
			recent := b.cert.Recent()
			if len(recent) != min(i+1, most) || recent[0].Num != int64(max(0, i+1-most)+1) || recent[len(recent)-1].Num != int64(i+1) {
				t.Fatalf("Keep %d, %d have committed: %v", keep, i+1, recent)
			}
		}
	}
}

// P11.1: how many keys and spans the summary has.
func TestOld(t *testing.T) {
	for most, room := range map[int]int{math.MinInt: 0, -7: 0, -1: 0, 0: 0, 1: 1, 2: 2, 63: 63, 64: 64, 65: 64, 66: 64, 1000: 64, math.MaxInt: 64} {
		for name, one := range map[string]func(key float64) part{
			"Writes": func(key float64) part { return w(key) },
			"Reads":  func(key float64) part { return r(key) },
			"Spans":  func(key float64) part { return sp(shut(key, key)) },
		} {
			b := newBoth(cert.Conf{Keep: 1, Old: most})
			for i := range room + 1 {
				b.commits(t, on(int64(i), one(float64(i))))
				if b.cert.Horizon() != 0 {
					t.Fatalf("Old %d, %d %s: the horizon is %d", most, i, name, b.cert.Horizon())
				}
			}
			b.commits(t, on(int64(room+1)))
			if b.cert.Horizon() != int64(room+1) {
				t.Errorf("Old %d, %d %s: the horizon is %d", most, room+1, name, b.cert.Horizon())
			}
		}
	}
}

// wrongs are submissions with one fault each, made of one that has none.
func wrongs(s api.Sub) map[api.Errno][]api.Sub {
	with := func(change ...part) api.Sub {
		x := s
		for _, c := range change {
			c(&x)
		}
		return x
	}
	session := func(n int64) part { return func(s *api.Sub) { s.Session = n } }
	seq := func(n int64) part { return func(s *api.Sub) { s.Seq = n } }
	snap := func(n int64) part { return func(s *api.Sub) { s.Snap = n } }
	var spans []api.Span
	for i := range 9 {
		spans = append(spans, shut(float64(i), float64(i)))
	}
	return map[api.Errno][]api.Sub{
		api.ErrName: {
			with(session(0)), with(session(-1)), with(session(1<<40 + 1)), with(seq(0)), with(seq(math.MinInt64)), with(seq(1<<40 + 1)),
			with(snap(-1)), with(snap(math.MinInt64)), with(snap(1<<40 + 1)), with(snap(math.MaxInt64)),
		},
		api.ErrMany:  {with(r(upTo(0, 17)...)), with(w(upTo(0, 17)...)), with(sp(spans...))},
		api.ErrKey:   {with(r(math.NaN())), with(w(math.NaN())), with(w(math.NaN(), 1)), with(r(1, math.NaN()))},
		api.ErrSpan:  {with(sp(shut(2, 1))), with(sp(shut(math.NaN(), 1))), with(sp(shut(1, math.NaN()))), with(sp(api.Span{LoOpen: true, HiOpen: true}))},
		api.ErrOrder: {with(r(2, 1)), with(r(1, 1)), with(r(zero)), with(w(zero)), with(w(2, 1)), with(sp(shut(zero, 1))), with(sp(shut(-1, zero))), with(sp(shut(2, 3), shut(0, 1))), with(sp(shut(0, 2), shut(1, 3))), with(sp(api.Span{Lo: 0, Hi: 1, HiOpen: true}))},
	}
}

// P11.1: layer 4's errors, whatever else there is; all of them change nothing.
func TestWrongSubmissions(t *testing.T) {
	empty := newBoth(roomy)
	some := newBoth(cert.Conf{Keep: 2, Old: 1}).commits(t, on(0, r(1), w(2)), on(1, w(3)), on(2), on(3, w(1)), on(3, w(5)))
	if some.cert.Horizon() != 2 {
		t.Fatalf("the horizon is %d", some.cert.Horizon())
	}
	full := loadBoth(t, roomy, image{count: 1 << 40, horizon: 5})
	for _, b := range []*both{empty, some, full} {
		// Some are too young otherwise, or too old, or write what was written, or are dangerous.
		for _, s := range []api.Sub{on(0), on(1, w(1)), on(4, w(5)), on(3, r(1), w(5)), on(99)} {
			for e, xs := range wrongs(s) {
				for _, x := range xs {
					b.must(t, x, -int64(e))
				}
			}
		}
	}
	// Of several faults of a submission, layer 4 names the first.
	for _, s := range []api.Sub{
		{},
		{Session: 1, Seq: 0, Reads: upTo(0, 17)},
		{Session: 1, Seq: 1, Reads: upTo(0, 17), Writes: []float64{math.NaN()}},
		{Session: 1, Seq: 1, Reads: []float64{math.NaN()}, Spans: []api.Span{shut(2, 1)}},
		{Session: 1, Seq: 1, Writes: []float64{2, 1}, Spans: []api.Span{shut(2, 1)}},
	} {
		empty.must(t, s, -int64(sub.Check(s)))
	}
}

// P11.1: where all numbers have been used up, whatever the submission is.
func TestNumbersEnd(t *testing.T) {
	const last = 1 << 40
	b := loadBoth(t, roomy, image{count: last - 2, horizon: 5})
	b.would(t, on(last-1), young)
	b.would(t, on(4), old)
	b.commits(t, on(last-2, w(1)), on(last-2, r(2), w(3)))
	if b.cert.Count() != last {
		t.Fatalf("%d have committed", b.cert.Count())
	}
	for name, s := range map[string]api.Sub{
		"nothing":   on(last),
		"right":     on(last, r(9), w(9)),
		"too old":   on(4),
		"elder yet": on(0),
		"written":   on(last-2, w(1)),
		"dangerous": on(last-2, r(3), w(2)),
	} {
		if b.must(t, s, many); b.cert.Count() != last {
			t.Errorf("%s: %d have committed", name, b.cert.Count())
		}
	}
	// Of a summary that is as full of numbers as may be.
	c := loadBoth(t, cert.Conf{Keep: 1, Old: 2}, image{count: last - 1, horizon: 0, recent: []piece{marked(on(last-2, r(1), w(2)))}, tables: [3][]entry{{at(5, last-2)}, {at(5, last-2)}, {at(6, last-2)}}, spans: []entry{over(7, 8, last-2)}})
	c.would(t, on(last-3, w(5)), clash)
	c.would(t, on(last-3, r(5)), danger)
	c.commits(t, on(last-2, r(5), w(6, 7, 8)))
	c.must(t, on(last), many)
}

// P11.1: Snap against the count.
func TestYoung(t *testing.T) {
	b := newBoth(roomy)
	for n := range int64(6) {
		for _, snap := range []int64{n + 1, n + 2, 1 << 40} {
			b.must(t, on(snap), young)
			b.must(t, on(snap, r(1), w(float64(n))), young)
		}
		for snap := range n + 1 {
			b.would(t, on(snap), n+1)
		}
		b.commits(t, on(n, w(float64(n))))
	}
}

// P11.1: Snap against the horizon; that is told ahead of what the ones beside it did.
func TestTooOld(t *testing.T) {
	b := newBoth(cert.Conf{Keep: 2, Old: 0}).commits(t, on(0, w(1)), on(1, w(2)), on(2, r(3), w(4)), on(2, r(4), w(5)), on(4, w(6)))
	if b.cert.Horizon() != 3 {
		t.Fatalf("the horizon is %d", b.cert.Horizon())
	}
	for snap := range int64(3) {
		for _, s := range []api.Sub{on(snap), on(snap, r(9), w(9)), on(snap, w(6)), on(snap, r(5)), on(snap, r(6), w(4))} {
			b.must(t, s, old)
		}
	}
	b.would(t, on(3), 6)
	b.would(t, on(3, w(6)), clash)
	b.would(t, on(3, r(5)), danger)
	b.would(t, on(3, w(1, 2, 3, 4)), 6)
	b.would(t, on(4, w(5)), 6)
	b.would(t, on(5), 6)
	b.would(t, on(6), young)
}

// P11.1: a key that one beside it has written, and one that isn't.
func TestWritten(t *testing.T) {
	for _, conf := range []cert.Conf{roomy, {Keep: 1, Old: 9}, {Keep: 2, Old: 9}} {
		b := newBoth(conf).commits(t, on(0, w(1, 2)), on(1, w(3)), on(2, w(1)), on(3), on(4))
		for snap := range int64(6) {
			for key, last := range map[float64]int64{1: 3, 2: 1, 3: 2, 4: 0, 0: 0, inf: 0} {
				v := int64(6)
				if snap < last {
					v = clash
				}
				b.would(t, on(snap, w(key)), v)
				if key < 4 {
					b.would(t, on(snap, w(key, 7)), v)
					b.would(t, on(snap, w(-1, key)), v)
				}
			}
		}
	}
}

// P11.1: that a key was written is told ahead of a danger.
func TestWrittenAndDangerous(t *testing.T) {
	for _, conf := range []cert.Conf{roomy, {Keep: 1, Old: 9}, {Keep: 2, Old: 9}} {
		b := newBoth(conf).commits(t, on(0, r(1), w(2)), on(0, w(1)), on(0, r(1), w(3)))
		b.would(t, on(0, r(2), w(1)), clash)
		b.would(t, on(0, r(3), w(2)), clash)
		b.would(t, on(0, r(3)), danger)
		b.would(t, on(0, r(2), w(5)), 4)
		b.would(t, on(1, r(1, 3), w(5)), danger)
		b.would(t, on(1, r(1, 3), w(1)), clash)
	}
}

// P11.1: the document's examples.
func TestExamples(t *testing.T) {
	b := newBoth(roomy)
	b.must(t, on(0, r(1), w(2)), 1)
	b.must(t, on(0, r(2), w(1)), danger)
	b = newBoth(roomy)
	b.must(t, on(0, w(1)), 1)
	b.must(t, on(0, w(1)), clash)
}

// P11.1: the mark of the recent ones: who gets it, and what comes of it.
func TestMark(t *testing.T) {
	for name, c := range map[string]struct {
		second api.Sub // beside the first one, which reads 8 and writes 1; it writes 2 itself
		out    bool
	}{
		"reads it":                {on(0, r(1), w(2)), true},
		"reads it among others":   {on(0, r(0, 1, 5), w(2)), true},
		"reads it by a span":      {on(0, w(2), sp(shut(-4, -3), shut(0, 3))), true},
		"at a span's first":       {on(0, w(2), sp(shut(1, 3))), true},
		"at a span's last":        {on(0, w(2), sp(shut(0, 1))), true},
		"ahead of a span's first": {on(0, w(2), sp(shut(up(1), 3))), false},
		"behind a span's last":    {on(0, w(2), sp(shut(0, down(1)))), false},
		"between two spans":       {on(0, w(2), sp(shut(0, down(1)), shut(up(1), 3))), false},
		"reads another one":       {on(0, r(5), w(2)), false},
		"reads nothing":           {on(0, w(2)), false},
		"reads what it has read":  {on(0, r(8), w(2)), false},
		"isn't beside it":         {on(1, r(1), w(2)), false},
		"writes what it has read": {on(0, w(2, 8)), false},
	} {
		b := newBoth(roomy).commits(t, on(0, r(8), w(1)), c.second)
		if b.said.recent[0].out || b.said.recent[1].out != c.out {
			t.Fatalf("%s: %v", name, b.said.recent)
		}
		v := int64(3)
		if c.out {
			v = danger
		}
		for snap := range int64(2) {
			b.would(t, on(snap, r(2)), v)
			b.would(t, on(snap, r(-7, 2, 7), w(7)), v)
			b.would(t, on(snap, sp(shut(2, 2))), v)
			b.would(t, on(snap, sp(shut(2, 7))), v)
			b.would(t, on(snap, sp(shut(up(2), 7), shut(9, 9))), 3)
			b.would(t, on(snap, r(down(2), up(2), 9)), 3)
			b.would(t, on(snap), 3)
		}
		b.would(t, on(2, r(2), w(2)), 3)
	}
}

// P11.1: a mark of one that isn't beside it does nothing, and neither does one of one that comes ahead of it alone.
func TestMarkElsewhere(t *testing.T) {
	b := newBoth(roomy).commits(t, on(0, w(1)), on(0, r(1, 6), w(2)), on(2, w(3)))
	b.would(t, on(2, r(2, 3)), 4)
	b.would(t, on(1, r(2, 3)), danger)
	b.would(t, on(1, r(3), w(7)), 4)
	b.would(t, on(1, w(6)), 4)
	b.would(t, on(1, r(3), w(6)), 4)
	b.would(t, on(3, r(2, 3), w(6)), 4)
	// The mark is of the moment at which it commits: the second one, which reads what the third writes later, has none.
	b = newBoth(roomy).commits(t, on(0, w(9)), on(1, r(1), w(2)), on(1, w(1)))
	b.would(t, on(1, r(2)), 4)
	b.would(t, on(1, r(1)), 4)
}

// P11.1: V and U of the recent ones: V's number below, at and above U's.
func TestDanger(t *testing.T) {
	// Readers read 1, writers write 2, or both; the one that is asked for reads 2 and writes 1.
	const no, rd, wr, rw = 0, 1, 2, 3
	one := func(kind int, i int) api.Sub {
		// All read a key of their own that nobody writes, so none has the mark.
		key := float64(100 + i)
		return on(int64(i), [...]part{r(key), r(1, key), r(key), r(1, key)}[kind], [...]part{w(key), w(key), w(2), w(2)}[kind])
	}
	for _, c := range []struct {
		kinds []int
		ok    bool
	}{
		{[]int{no}, true}, {[]int{rd}, true}, {[]int{wr}, true}, {[]int{rw}, false},
		{[]int{wr, rd}, false}, {[]int{rd, wr}, true}, {[]int{rd, rd}, true}, {[]int{wr, wr}, true},
		{[]int{rd, wr, no}, true}, {[]int{rd, no, wr}, true}, {[]int{wr, no, rd}, false},
		{[]int{wr, rd, wr}, false}, // the least writer is ahead of the reader
		{[]int{rd, wr, rd}, false}, // the greatest reader is behind the writer
		{[]int{rd, rd, wr, wr}, true}, {[]int{rd, rw, wr}, false}, {[]int{rd, wr, rd, wr}, false}, {[]int{no, no, rw, no}, false}, {[]int{rd, rd, rw}, false}, {[]int{rw, wr, wr}, false},
	} {
		b := newBoth(roomy)
		for i, kind := range c.kinds {
			b.commits(t, one(kind, i))
		}
		for snap := range int64(len(c.kinds) + 1) {
			of, before := int64(0), int64(0) // V and U, by the words
			for i, kind := range c.kinds {
				if n := int64(i + 1); n > snap {
					if kind&wr != 0 && of == 0 {
						of = n
					}
					if kind&rd != 0 {
						before = n
					}
				}
			}
			v := int64(len(c.kinds) + 1)
			if of > 0 && before > 0 && of <= before {
				v = danger
			}
			if snap == 0 && (v > 0) != c.ok {
				t.Fatalf("%v: V is %d, U %d", c.kinds, of, before)
			}
			b.would(t, on(snap, r(2), w(1)), v)
			b.would(t, on(snap, w(1), sp(shut(1, 3))), v)
			b.would(t, on(snap, r(-5, 2), w(1, 5)), v)
			// Without reading, or without writing, it isn't between.
			b.would(t, on(snap, w(1)), int64(len(c.kinds)+1))
			b.would(t, on(snap, r(2)), int64(len(c.kinds)+1))
		}
	}
}

// ends are spans, and the keys at which what they have ends.
func ends() map[api.Span][]float64 {
	return map[api.Span][]float64{
		shut(1, 2):                              {down(1), 1, up(1), 1.5, down(2), 2, up(2)},
		shut(1, 1):                              {down(1), 1, up(1)},
		shut(0, 1):                              {-least, 0, least, 1, up(1)},
		shut(-1, 0):                             {down(-1), -1, -least, 0, least},
		shut(-1, -least):                        {-1, -least, 0},
		shut(least, 1):                          {0, least, 1},
		shut(0, 0):                              {-least, 0, least},
		shut(-inf, inf):                         {-inf, -math.MaxFloat64, 0, math.MaxFloat64, inf},
		shut(-inf, -math.MaxFloat64):            {-inf, -math.MaxFloat64, up(-math.MaxFloat64)},
		shut(math.MaxFloat64, inf):              {down(math.MaxFloat64), math.MaxFloat64, inf},
		shut(inf, inf):                          {math.MaxFloat64, inf},
		shut(-inf, -inf):                        {-inf, -math.MaxFloat64},
		shut(-math.MaxFloat64, math.MaxFloat64): {-inf, -math.MaxFloat64, math.MaxFloat64, inf},
		shut(up(1), down(2)):                    {1, up(1), down(2), 2},
		shut(math.Pi, math.Nextafter(math.Pi, 4)): {down(math.Pi), math.Pi, up(math.Pi), up(up(math.Pi))},
	}
}

// P11.1: a span's ends, of the one that is decided and of one beside it, of the recent ones and of the summary.
func TestSpanEnds(t *testing.T) {
	for _, conf := range []cert.Conf{roomy, {Keep: 1, Old: 9}} {
		for f, keys := range ends() {
			for _, key := range keys {
				v := int64(3)
				if f.Lo <= key && key <= f.Hi {
					v = danger
				}
				t.Run(fmt.Sprintf("Keep %d, %v and %v", conf.Keep, f, key), func(t *testing.T) {
					// The first one writes the key and reads another, or reads the span and writes another; the one that is asked for turns it round.
					b := newBoth(conf).commits(t, on(0, r(77.5), w(key)), on(1))
					b.would(t, on(0, w(77.5), sp(f)), v)
					c := newBoth(conf).commits(t, on(0, w(-77.5), sp(f)), on(1))
					c.would(t, on(0, r(-77.5), w(key)), v)
				})
			}
		}
	}
}

// P11.1: of the keys 0 and -0 only the one is a form; its neighbours are others.
func TestZero(t *testing.T) {
	for _, conf := range []cert.Conf{roomy, {Keep: 1, Old: 9}} {
		b := newBoth(conf).commits(t, on(0, r(5), w(0)), on(1))
		for _, s := range []api.Sub{on(0, w(zero)), on(0, r(zero), w(5)), on(0, w(5), sp(shut(zero, 1))), on(0, w(5), sp(shut(-1, zero)))} {
			b.must(t, s, unorder)
		}
		b.would(t, on(0, w(0)), clash)
		b.would(t, on(0, w(-least)), 3)
		b.would(t, on(0, w(least)), 3)
		b.would(t, on(0, r(0), w(5)), danger)
		b.would(t, on(0, r(-least, least), w(5)), 3)
		b.would(t, on(0, w(5), sp(shut(0, 0))), danger)
		b.would(t, on(0, w(5), sp(shut(-1, 0))), danger)
		b.would(t, on(0, w(5), sp(shut(-1, -least), shut(least, 1))), 3)
	}
	// Nor does it find its way into the tables: what is told has 0's bits, which are asked for by told.
	b := newBoth(cert.Conf{Keep: 1, Old: 9}).commits(t, on(0, r(0), w(0), sp(shut(0, 0))), on(1))
	if b.cert.Horizon() != 0 {
		t.Fatal("the summary was emptied")
	}
	b.would(t, on(0, w(0)), clash)
}

// P11.1: a transaction isn't beside itself, and reading what it writes is nothing.
func TestOwnKeys(t *testing.T) {
	b := newBoth(roomy)
	for n := range int64(5) {
		b.commits(t, on(n, r(1), w(1), sp(shut(0, 2))))
	}
	if slices.ContainsFunc(b.said.recent, func(x whole) bool { return x.out }) {
		t.Error("one has a mark")
	}
	b.must(t, on(4, r(1)), 6)
	b.must(t, on(4, w(1)), clash)
}
