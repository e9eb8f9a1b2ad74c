package cert_test

import (
	"bytes"
	"math"
	"math/rand/v2"
	"slices"
	"strconv"
	"testing"

	"quillet/api"
	"quillet/cert"
)

// P11.1: the form of the bytes, written out once.
func TestBytesForm(t *testing.T) {
	b := newBoth(cert.Conf{Keep: 1, Old: 9}).commits(t, on(0, w(1)), on(0, r(1), w(2), sp(shut(1, 2))), on(2, r(inf)))
	one, two := "\xbf\xf0\x00\x00\x00\x00\x00\x00", "\xc0\x00\x00\x00\x00\x00\x00\x00"
	end := "\xff\xf0\x00\x00\x00\x00\x00\x00"
	want := "\x06\x00" + // the count, the horizon
		"\x02" + "\x00" + "\x1c" + "\x06\x0a\x04" + "\x02" + end + "\x00" + "\x00" + // one: no mark, 14 bytes of a submission
		"\x04" + one + "\x02" + two + "\x04" + // writers
		"\x02" + two + "\x04" + // those with the mark
		"\x02" + one + "\x04" + // readers
		"\x02" + one + two + "\x04" // spans
	if got := string(b.cert.Bytes()); got != want {
		t.Errorf("the bytes are %q, not %q", got, want)
	}
	b = newBoth(roomy).commits(t, on(0, w(1)), on(0, r(1)))
	want = "\x04\x00" + "\x04" + "\x00\x1c\x06\x0a\x00\x00\x00\x02" + one + "\x01\x1c\x06\x0a\x00\x02" + one + "\x00\x00" + "\x00\x00\x00\x00"
	if got := string(b.cert.Bytes()); got != want {
		t.Errorf("the bytes are %q, not %q", got, want)
	}
}

// rich is what a Cert knows that has some of everything: 5 is the horizon, 9 and 10 are recent.
func rich() (cert.Conf, image) {
	return cert.Conf{Keep: 2, Old: 3}, image{
		count:   10,
		horizon: 5,
		recent:  []piece{marked(on(6, r(1), w(2))), plain(on(9, w(3), sp(shut(0, 1))))},
		tables:  [3][]entry{{at(-1, 6), at(0, 8), at(inf, 7)}, {at(-1, 6)}, {at(1, 8), at(2, 7)}},
		spans:   []entry{over(-inf, 0, 8), over(1, 2, 6), over(1, inf, 7)},
	}
}

// loads asks whether bytes are loaded, if they should be, and tells the Cert, or nil.
func loads(t *testing.T, name any, conf cert.Conf, b []byte) *both {
	t.Helper()
	was := slices.Clone(b)
	c, e := cert.Load(conf, b)
	s := saidLoad(conf, b)
	if !bytes.Equal(b, was) {
		t.Fatalf("%v: Load has changed the bytes", name)
	}
	if s == nil {
		if c != nil || e != api.ErrForm {
			t.Fatalf("%v: Load(%v, %v) = %v, %d", name, conf, b, c, e)
		}
		return nil
	}
	if c == nil || e != api.OK {
		t.Fatalf("%v: Load(%v, %v) = %d", name, conf, b, e)
	}
	x := &both{conf: conf, cert: c, said: s}
	if !bytes.Equal(c.Bytes(), b) {
		t.Fatalf("%v: %v are loaded, and told as %v", name, b, c.Bytes())
	}
	x.told(t, name)
	return x
}

// just asks of an image that is right, with one thing changed so that it is just right, or just not.
func just(t *testing.T, name string, ok bool, change func(conf *cert.Conf, m *image)) {
	t.Helper()
	conf, m := rich()
	change(&conf, &m)
	if x := loads(t, name, conf, m.bytes()); (x != nil) != ok {
		t.Errorf("%s: Load takes it: %v", name, x != nil)
	}
}

// P11.1, P11.4: the count and the horizon.
func TestLoadNumbers(t *testing.T) {
	for _, c := range []struct {
		count, horizon int64
		ok             bool
	}{
		{0, 0, true}, {1, 0, true}, {1, 1, true}, {1 << 40, 0, true}, {1 << 40, 1 << 40, true}, {1 << 40, 1<<40 - 1, true},
		{-1, 0, false}, {-1, -1, false}, {0, -1, false}, {5, -1, false}, {0, 1, false}, {5, 6, false}, {1<<40 + 1, 0, false}, {1<<40 + 1, 1<<40 + 1, false}, {1 << 40, 1<<40 + 1, false},
		{math.MaxInt64, 0, false}, {math.MinInt64, 0, false}, {0, math.MinInt64, false}, {0, math.MaxInt64, false}, {math.MaxInt64, math.MaxInt64, false}, {math.MinInt64, math.MinInt64, false}, {math.MaxInt64, math.MinInt64, false}, {math.MinInt64, math.MaxInt64, false},
	} {
		x := loads(t, c, roomy, image{count: c.count, horizon: c.horizon}.bytes())
		if (x != nil) != c.ok {
			t.Errorf("%v: Load takes it: %v", c, x != nil)
		}
		if x == nil || c.count == 1<<40 {
			continue
		}
		x.would(t, on(c.count+1), young)
		x.would(t, on(c.horizon, r(1), w(1)), c.count+1)
		if c.horizon > 0 {
			x.would(t, on(c.horizon-1), old)
		}
	}
	just(t, "as it is", true, func(conf *cert.Conf, m *image) {})
	just(t, "the horizon is the last of the summary", false, func(conf *cert.Conf, m *image) { m.horizon = 6 })
	just(t, "the horizon is 0", true, func(conf *cert.Conf, m *image) { m.horizon = 0 })
	just(t, "one fewer have committed", false, func(conf *cert.Conf, m *image) { m.count = 9 })
	just(t, "one more has committed", true, func(conf *cert.Conf, m *image) { m.count = 11 })
}

// P11.1, P11.4: how many recent ones.
func TestLoadRecent(t *testing.T) {
	for _, keep := range []int{-1, 0, 1, 2, 31, 32, 33, 99} {
		most := max(1, min(keep, 32))
		for many := range 36 {
			m := image{count: 100}
			for range many {
				m.recent = append(m.recent, plain(on(0)))
			}
			if x := loads(t, many, cert.Conf{Keep: keep}, m.bytes()); (x != nil) != (many <= most) {
				t.Errorf("Keep %d, %d recent ones: Load takes it: %v", keep, many, x != nil)
			}
		}
	}
	for count := range int64(6) {
		for horizon := range count + 1 {
			for many := range int64(7) {
				m := image{count: count, horizon: horizon}
				for range many {
					m.recent = append(m.recent, plain(on(0)))
				}
				if x := loads(t, many, roomy, m.bytes()); (x != nil) != (many <= count-horizon) {
					t.Errorf("%d recent ones of %d, the horizon is %d: Load takes it: %v", many, count, horizon, x != nil)
				}
			}
		}
	}
	for _, n := range []int64{-1, -2, math.MinInt64, math.MaxInt64, 1 << 32, 1<<32 + 1} {
		if x := loads(t, n, roomy, append(appendNum([]byte{20, 0}, n), 0, 0, 0, 0)); x != nil {
			t.Errorf("%d recent ones: Load takes it", n)
		}
	}
}

// P11.1, P11.4: each recent one is right, and its Snap below its number.
func TestLoadSubmissions(t *testing.T) {
	for snap := int64(-1); snap < 12; snap++ {
		just(t, "Snap of the first", snap >= 0 && snap < 9, func(conf *cert.Conf, m *image) { m.recent[0] = marked(on(snap, r(1), w(2))) })
		just(t, "Snap of the last", snap >= 0 && snap < 10, func(conf *cert.Conf, m *image) { m.recent[1] = plain(on(snap)) })
	}
	for e, xs := range wrongs(on(5, r(1), w(2), sp(shut(1, 2)))) {
		for _, x := range xs {
			// Which ends are open isn't among the bytes: without that these are right.
			ok := slices.ContainsFunc(x.Spans, func(f api.Span) bool { return f.HiOpen })
			for place := range 2 {
				just(t, "a submission that isn't right: "+strconv.Itoa(int(e)), ok, func(conf *cert.Conf, m *image) { m.recent[place] = plain(x) })
			}
		}
	}
	just(t, "a flag of 2", false, func(conf *cert.Conf, m *image) { m.recent[0].flag = 2 })
	just(t, "a flag of 255", false, func(conf *cert.Conf, m *image) { m.recent[1].flag = 255 })
	just(t, "the mark of the last", true, func(conf *cert.Conf, m *image) { m.recent[1].flag = 1 })
	just(t, "no mark of the first", true, func(conf *cert.Conf, m *image) { m.recent[0].flag = 0 })
	just(t, "no bytes", false, func(conf *cert.Conf, m *image) { m.recent[0].bytes = nil })
	just(t, "a byte behind it", false, func(conf *cert.Conf, m *image) { m.recent[0].bytes = append(m.recent[0].bytes, 0) })
	just(t, "a byte fewer", false, func(conf *cert.Conf, m *image) { m.recent[0].bytes = m.recent[0].bytes[:10] })
	just(t, "too many bytes", false, func(conf *cert.Conf, m *image) { m.recent[0].bytes = make([]byte, 4097) })
	just(t, "another one's bytes", true, func(conf *cert.Conf, m *image) { m.recent[0] = plain(on(8)) })
}

// tableOf is a pointer to one of the four, and how an entry of a key is made for it.
func tableOf(m *image, i int) (*[]entry, func(key float64, n int64) entry) {
	if i == 3 {
		return &m.spans, func(key float64, n int64) entry { return over(key, key, n) }
	}
	return &m.tables[i], at
}

// P11.1, P11.4: how many keys and spans.
func TestLoadRoom(t *testing.T) {
	for _, most := range []int{math.MinInt, -1, 0, 1, 2, 63, 64, 65, 1000, math.MaxInt} {
		room := max(0, min(most, 64))
		for i := range 4 {
			for many := range 67 {
				just(t, "room", many <= room, func(conf *cert.Conf, m *image) {
					conf.Old = most
					m.tables, m.spans = [3][]entry{}, nil
					table, make := tableOf(m, i)
					for key := range many {
						*table = append(*table, make(float64(key), 6))
					}
				})
			}
		}
	}
	// How many there are is a number of its own, which may be none that can be.
	for i := range 4 {
		for _, n := range []int64{-1, math.MinInt64, 65, 1 << 32, math.MaxInt64} {
			b := append(appendNum([]byte{0, 0, 0, 0, 0, 0}[:3+i], n), make([]byte, 3-i)...)
			if x := loads(t, n, roomy, b); x != nil {
				t.Errorf("%d in table %d: Load takes it", n, i)
			}
		}
	}
}

// P11.1, P11.4: numbers are behind the horizon and ahead of the first recent one; without recent ones there are none.
func TestLoadTableNumbers(t *testing.T) {
	for i := range 4 {
		for n := int64(-2); n < 12; n++ {
			just(t, "a number", n > 5 && n < 9, func(conf *cert.Conf, m *image) {
				table, _ := tableOf(m, i)
				(*table)[0].num = n
			})
			just(t, "a number of the last", n > 5 && n < 9, func(conf *cert.Conf, m *image) {
				table, _ := tableOf(m, i)
				(*table)[len(*table)-1].num = n
			})
			just(t, "a number, one recent one", n > 0 && n < 10, func(conf *cert.Conf, m *image) {
				m.horizon, m.recent = 0, m.recent[1:]
				table, _ := tableOf(m, i)
				(*table)[0].num = n
			})
			just(t, "a number, no recent one", false, func(conf *cert.Conf, m *image) {
				m.horizon, m.recent, m.tables, m.spans = 0, nil, [3][]entry{}, nil
				table, make := tableOf(m, i)
				*table = []entry{make(1, n)}
			})
		}
		for _, n := range []int64{1<<40 - 2, 1<<40 - 1, 1 << 40, 1<<40 + 1, math.MaxInt64, math.MinInt64} {
			just(t, "a great number", n == 1<<40-2, func(conf *cert.Conf, m *image) {
				m.count = 1 << 40
				table, _ := tableOf(m, i)
				(*table)[0].num = n
			})
		}
	}
	just(t, "no recent one, no table", true, func(conf *cert.Conf, m *image) { m.recent, m.tables, m.spans = nil, [3][]entry{}, nil })
	just(t, "tables without anything", true, func(conf *cert.Conf, m *image) { m.tables, m.spans = [3][]entry{}, nil })
	just(t, "the mark of what isn't written", true, func(conf *cert.Conf, m *image) { m.tables[0] = nil })
}

// P11.1, P11.4: keys rise, and are keys in their form.
func TestLoadKeys(t *testing.T) {
	for i := range 3 {
		for _, c := range []struct {
			keys []float64
			ok   bool
		}{
			{[]float64{1}, true}, {[]float64{1, 2}, true}, {[]float64{1, up(1)}, true}, {[]float64{-inf, inf}, true}, {[]float64{-least, 0, least}, true}, {[]float64{-2, -1, 0}, true}, {[]float64{-inf}, true}, {[]float64{inf}, true},
			{[]float64{1, 1}, false}, {[]float64{2, 1}, false}, {[]float64{up(1), 1}, false}, {[]float64{1, 3, 2}, false}, {[]float64{1, 3, 3}, false}, {[]float64{0, 2, 1}, false}, {[]float64{inf, -inf}, false}, {[]float64{-1, -2}, false},
			{[]float64{zero}, false}, {[]float64{zero, 0}, false}, {[]float64{0, zero}, false}, {[]float64{0, 0}, false},
			{[]float64{math.NaN()}, false}, {[]float64{math.NaN(), 1}, false}, {[]float64{1, math.NaN()}, false}, {[]float64{math.NaN(), math.NaN()}, false},
		} {
			just(t, "keys", c.ok, func(conf *cert.Conf, m *image) {
				m.tables[i] = nil
				for _, key := range c.keys {
					m.tables[i] = append(m.tables[i], at(key, 7))
				}
			})
		}
		for _, u := range []uint64{1, 1<<63 - 1, math.MaxUint64, 0xFFF0000000000001, 0xFFF8000000000001, 0x0007FFFFFFFFFFFE} {
			just(t, "a code of no number", false, func(conf *cert.Conf, m *image) { m.tables[i] = []entry{{key: u, num: 7}} })
		}
	}
}

// P11.1, P11.4: spans are forms in order, none twice; they may overlap.
func TestLoadSpans(t *testing.T) {
	for _, c := range []struct {
		ends [][2]float64
		ok   bool
	}{
		{[][2]float64{{1, 1}}, true}, {[][2]float64{{1, 2}}, true}, {[][2]float64{{-inf, inf}}, true}, {[][2]float64{{-least, 0}}, true}, {[][2]float64{{inf, inf}}, true},
		{[][2]float64{{1, 2}, {1, 3}}, true}, {[][2]float64{{1, 2}, {2, 2}}, true}, {[][2]float64{{1, 9}, {2, 3}}, true}, {[][2]float64{{1, 2}, {1, up(2)}, {up(1), 2}}, true}, {[][2]float64{{1, 2}, {up(2), 3}}, true},
		{[][2]float64{{2, 1}}, false}, {[][2]float64{{up(1), 1}}, false}, {[][2]float64{{0, -least}}, false}, {[][2]float64{{inf, -inf}}, false}, {[][2]float64{{1, 2}, {4, 3}}, false},
		{[][2]float64{{1, 2}, {1, 2}}, false}, {[][2]float64{{1, 3}, {1, 2}}, false}, {[][2]float64{{2, 3}, {1, 9}}, false}, {[][2]float64{{1, 2}, {3, 4}, {3, 4}}, false}, {[][2]float64{{1, 2}, {5, 6}, {3, 4}}, false},
		{[][2]float64{{zero, 1}}, false}, {[][2]float64{{-1, zero}}, false}, {[][2]float64{{math.NaN(), 1}}, false}, {[][2]float64{{1, math.NaN()}}, false}, {[][2]float64{{math.NaN(), math.NaN()}}, false}, {[][2]float64{{1, 2}, {math.NaN(), 3}}, false}, {[][2]float64{{1, 2}, {3, math.NaN()}}, false},
	} {
		just(t, "spans", c.ok, func(conf *cert.Conf, m *image) {
			m.spans = nil
			for _, e := range c.ends {
				m.spans = append(m.spans, over(e[0], e[1], 7))
			}
		})
	}
}

// P11.1, P11.4: bytes that end early, or go on.
func TestLoadLengths(t *testing.T) {
	conf, m := rich()
	all := m.bytes()
	for _, b := range [][]byte{all, newBoth(conf).cert.Bytes()} {
		for n := range b {
			if loads(t, n, conf, b[:n]) != nil {
				t.Errorf("%d of %d bytes are loaded", n, len(b))
			}
		}
		for _, more := range [][]byte{{0}, {1}, {255}, {0, 0}, b} {
			if loads(t, more, conf, append(slices.Clone(b), more...)) != nil {
				t.Errorf("with %v behind them: bytes are loaded", more)
			}
		}
	}
	for _, b := range [][]byte{nil, {}} {
		if loads(t, "nothing", conf, b) != nil {
			t.Error("no bytes are loaded")
		}
	}
	// Numbers have one form alone.
	if loads(t, "a number of two bytes", conf, append([]byte{128, 0}, make([]byte, 6)...)) != nil {
		t.Error("a number with a zero at its end is loaded")
	}
}

// P11.1, P11.4: bytes of which one is turned, in every way: they are loaded just if they are right, and tell and decide then what they say.
func TestLoadTurned(t *testing.T) {
	t.Parallel()
	conf, m := rich()
	short := newBoth(conf).commits(t, on(0, w(1)), on(0, r(1), w(2), sp(shut(1, 2))), on(2, r(3), w(4)))
	loaded := 0
	for _, b := range [][]byte{m.bytes(), short.cert.Bytes(), newBoth(conf).cert.Bytes()} {
		for i := range b {
			for turn := 1; turn < 256; turn++ {
				x := slices.Clone(b)
				x[i] ^= byte(turn)
				c := loads(t, i, conf, x)
				if c == nil {
					continue
				}
				// To decide takes its time: where a single bit is turned.
				if loaded++; turn&(turn-1) == 0 {
					for _, s := range []api.Sub{on(7, r(0), w(1)), on(6, w(inf)), on(8, r(2), w(0.5)), on(9, w(7))} {
						c.do(t, s)
					}
				}
			}
		}
	}
	if loaded < 1000 {
		t.Errorf("%d were loaded alone", loaded)
	}
}

// P11.1: bytes of any kind are loaded or refused.
func TestLoadAnyBytes(t *testing.T) {
	d := rand.New(rand.NewPCG(11, 4))
	conf, m := rich()
	all := m.bytes()
	for range 20000 {
		b := slices.Clone(all)
		for range d.IntN(4) {
			b[d.IntN(len(b))] = byte(d.Uint32())
		}
		if at := d.IntN(len(b)); d.IntN(2) == 0 {
			b = slices.Delete(b, at, min(at+d.IntN(9), len(b)))
		}
		loads(t, "any", conf, b)
		short := make([]byte, d.IntN(12))
		for i := range short {
			short[i] = byte(d.IntN(5))
		}
		loads(t, "any", conf, short)
	}
}

// P11.4: bytes are loaded by another Conf too, where that has room for them; it goes on as that says.
func TestLoadByAnotherConf(t *testing.T) {
	conf, m := rich()
	for _, c := range []struct {
		conf cert.Conf
		ok   bool
	}{
		{conf, true}, {cert.Conf{Keep: 1, Old: 3}, false}, {cert.Conf{Keep: 2, Old: 2}, false}, {cert.Conf{Keep: 3, Old: 3}, true}, {cert.Conf{Keep: 2, Old: 4}, true}, {cert.Conf{Keep: 99, Old: 99}, true}, {cert.Conf{Keep: 0, Old: 3}, false}, {cert.Conf{Keep: 2, Old: -1}, false},
	} {
		x := loads(t, c.conf, c.conf, m.bytes())
		if (x != nil) != c.ok {
			t.Errorf("%v: Load takes it: %v", c.conf, x != nil)
		}
		if x == nil {
			continue
		}
		for n := range int64(8) {
			x.commits(t, on(10+n, w(float64(n))))
		}
		if len(x.cert.Recent()) != min(c.conf.Keep, 10) {
			t.Errorf("%v: %d recent ones", c.conf, len(x.cert.Recent()))
		}
	}
}

// again is a Cert that is loaded of another one's bytes.
func again(t *testing.T, conf cert.Conf, c *cert.Cert) *cert.Cert {
	t.Helper()
	b := c.Bytes()
	x, e := cert.Load(conf, b)
	if e != api.OK || x == nil || !bytes.Equal(x.Bytes(), b) {
		t.Fatalf("%v: Load(%v) = %d", conf, b, e)
	}
	return x
}

// P11.4: a Cert that was loaded behind each of many submissions answers each of many others the same.
func TestLoadedAnswersTheSame(t *testing.T) {
	for seed, conf := range confs() {
		d := dice{rand.New(rand.NewPCG(4, uint64(seed))), keyPools()[seed%3]}
		c := cert.New(conf)
		for range 60 {
			x, y := again(t, conf, c), again(t, conf, c)
			for range 12 {
				s := d.sub(x.Count(), x.Horizon())
				if v, u := x.Decide(s), y.Decide(s); v != u || !bytes.Equal(x.Bytes(), y.Bytes()) {
					t.Fatalf("%v: %v is %v and %v", conf, s, v, u)
				}
				y = again(t, conf, y)
			}
			c.Decide(d.sub(c.Count(), c.Horizon()))
		}
	}
}
