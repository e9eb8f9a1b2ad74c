package sub_test

import (
	"math"
	"slices"
	"testing"

	"quillet/api"
	"quillet/flo"
	"quillet/span"
	"quillet/sub"
)

const most = 1 << 40

var (
	inf   = math.Inf(1)
	nan   = math.NaN()
	other = math.Float64frombits(0xFFF0000000000001) // another NaN
	zero  = math.Copysign(0, -1)
)

func up(x float64) float64   { return math.Nextafter(x, inf) }
func down(x float64) float64 { return math.Nextafter(x, -inf) }

func shut(lo, hi float64) api.Span  { return api.Span{Lo: lo, Hi: hi} }
func left(lo, hi float64) api.Span  { return api.Span{Lo: lo, Hi: hi, LoOpen: true} }
func right(lo, hi float64) api.Span { return api.Span{Lo: lo, Hi: hi, HiOpen: true} }
func open(lo, hi float64) api.Span  { return api.Span{Lo: lo, Hi: hi, LoOpen: true, HiOpen: true} }

func good() api.Sub {
	return api.Sub{Session: 1, Seq: 2, Snap: 3, Reads: []float64{-1, 4}, Spans: []api.Span{shut(1, 3), shut(5, 5)}, Writes: []float64{2, 6}}
}

func with(changes ...func(s *api.Sub)) api.Sub {
	s := good()
	for _, change := range changes {
		change(&s)
	}
	return s
}

func reads(xs ...float64) func(s *api.Sub)  { return func(s *api.Sub) { s.Reads = xs } }
func writes(xs ...float64) func(s *api.Sub) { return func(s *api.Sub) { s.Writes = xs } }
func spans(ss ...api.Span) func(s *api.Sub) { return func(s *api.Sub) { s.Spans = ss } }
func session(n int64) func(s *api.Sub)      { return func(s *api.Sub) { s.Session = n } }
func seq(n int64) func(s *api.Sub)          { return func(s *api.Sub) { s.Seq = n } }
func snap(n int64) func(s *api.Sub)         { return func(s *api.Sub) { s.Snap = n } }
func numbers(a, b, c int64) func(s *api.Sub) {
	return func(s *api.Sub) { s.Session, s.Seq, s.Snap = a, b, c }
}

// rising is n keys in order.
func rising(n int) []float64 {
	var xs []float64
	for i := range n {
		xs = append(xs, float64(i)*1.5)
	}
	return xs
}

// apart is n spans in order that don't touch.
func apart(n int) []api.Span {
	var ss []api.Span
	for _, x := range rising(n) {
		ss = append(ss, shut(x, x+1))
	}
	return ss
}

// touching is n spans that have all keys from 0 to n, each from where the one ahead ends.
func touching(n int) []api.Span {
	var ss []api.Span
	for i := range n {
		ss = append(ss, right(float64(i), float64(i+1)))
	}
	return ss
}

func alike(a, b api.Sub) bool {
	bits := func(x, y float64) bool { return math.Float64bits(x) == math.Float64bits(y) }
	return a.Session == b.Session && a.Seq == b.Seq && a.Snap == b.Snap && slices.EqualFunc(a.Reads, b.Reads, bits) && slices.EqualFunc(a.Writes, b.Writes, bits) &&
		slices.EqualFunc(a.Spans, b.Spans, func(x, y api.Span) bool {
			return bits(x.Lo, y.Lo) && bits(x.Hi, y.Hi) && x.LoOpen == y.LoOpen && x.HiOpen == y.HiOpen
		})
}

func isZero(s api.Sub) bool { return alike(s, api.Sub{}) }

// sayCheck says by the document's words, one after the other, what Check answers.
func sayCheck(s api.Sub) api.Errno {
	if s.Session < 1 || s.Session > most || s.Seq < 1 || s.Seq > most || s.Snap < 0 || s.Snap > most {
		return api.ErrName
	}
	if len(s.Reads) > 16 || len(s.Spans) > 8 || len(s.Writes) > 16 {
		return api.ErrMany
	}
	for _, x := range slices.Concat(s.Reads, s.Writes) {
		if x != x {
			return api.ErrKey
		}
	}
	for _, x := range s.Spans {
		if !hasSome(x) {
			return api.ErrSpan
		}
	}
	if !rise(s.Reads) || !rise(s.Writes) {
		return api.ErrOrder
	}
	for i, x := range s.Spans {
		if x.LoOpen || x.HiOpen || minus(x.Lo) || minus(x.Hi) || i > 0 && !(up(s.Spans[i-1].Hi) < x.Lo) {
			return api.ErrOrder
		}
	}
	return api.OK
}

func minus(x float64) bool { return x == 0 && math.Signbit(x) }

func rise(xs []float64) bool {
	for i, x := range xs {
		if minus(x) || i > 0 && !(xs[i-1] < x) {
			return false
		}
	}
	return true
}

// has says whether a span has a key.
func has(s api.Span, key float64) bool {
	return (s.Lo < key || s.Lo == key && !s.LoOpen) && (key < s.Hi || key == s.Hi && !s.HiOpen)
}

// hasSome says whether a span has a key: if so, Lo or the one behind it is one of its.
func hasSome(s api.Span) bool { return has(s, s.Lo) || has(s, up(s.Lo)) }

// sayCanon says which error Canon answers.
func sayCanon(s api.Sub) api.Errno {
	f := s
	f.Reads, f.Spans, f.Writes = flo.Sort(s.Reads), span.Norm(s.Spans), flo.Sort(s.Writes)
	if e := sayCheck(f); e == api.ErrName || e == api.ErrMany || e == api.ErrKey {
		return e
	}
	for _, x := range s.Spans {
		if x.Lo != x.Lo || x.Hi != x.Hi {
			return api.ErrSpan
		}
	}
	return api.OK
}

// lists of keys: right ones, and ones that are wrong in one way or in several.
func keyLists() [][]float64 {
	return [][]float64{nil, {}, {0}, {-inf, inf}, {-inf, down(0), 0, up(0), inf}, {zero}, {zero, 0}, {-1, zero, 1}, {1, 1}, {2, 1}, {nan}, {other, 1}, {2, 1, nan}, rising(16), rising(17),
		make([]float64, 17), append(rising(16), 3), append(rising(16), nan), append(rising(15), other, nan), append(rising(17), nan)}
}

func spanLists() [][]api.Span {
	return [][]api.Span{nil, {}, {shut(0, 0)}, {shut(-inf, inf)}, {shut(-inf, -inf), shut(0, 1), shut(inf, inf)}, {shut(1, 2), shut(up(up(2)), 3)}, {shut(1, 2), shut(up(2), 3)}, {shut(1, 2), shut(2, 3)},
		{shut(1, 9), shut(2, 3)}, {shut(3, 4), shut(1, 2)}, {shut(1, 2), shut(1, 2)}, {shut(zero, 1)}, {shut(-1, zero)}, {left(1, 2)}, {right(1, 2)}, {open(1, 2)}, {shut(2, 1)}, {left(1, 1)}, {open(1, up(1))}, {open(0, 0)},
		{left(inf, inf)}, {right(-inf, -inf)}, {shut(nan, 1)}, {shut(1, other)}, {open(nan, nan)}, {shut(1, 2), shut(5, 4), shut(7, 8)}, {shut(1, 2), shut(nan, 4)}, {shut(2, 1), right(3, 4)},
		apart(8), apart(9), touching(9), touching(40), append(apart(8), shut(2, 1)), append(apart(8), shut(nan, 1)), append(apart(9), shut(1, nan)), append(apart(8), open(0, 1))}
}

func numberLists() [][3]int64 {
	return [][3]int64{{1, 1, 0}, {most, most, most}, {1, 2, 3}, {0, 1, 1}, {1, 0, 1}, {1, 1, -1}, {most + 1, 1, 1}, {1, most + 1, 1}, {1, 1, most + 1},
		{-1, 1, 1}, {1, -1, 1}, {math.MinInt64, 1, 1}, {1, math.MinInt64, 1}, {1, 1, math.MinInt64}, {math.MaxInt64, 1, 1}, {1, math.MaxInt64, 1}, {1, 1, math.MaxInt64}}
}

// every is all submissions of these lists with the first two numbers' lists, and about a third of them with each other one.
func every(f func(s api.Sub)) {
	for i, n := range numberLists() {
		for _, r := range keyLists() {
			for _, ss := range spanLists() {
				for _, w := range keyLists() {
					if i < 2 || i%3 == len(r)%3 {
						f(api.Sub{Session: n[0], Seq: n[1], Snap: n[2], Reads: r, Spans: ss, Writes: w})
					}
				}
			}
		}
	}
}

// P4.1
func TestCheckCases(t *testing.T) {
	for i, c := range []struct {
		s    api.Sub
		want api.Errno
	}{
		{good(), api.OK}, {with(reads(), spans(), writes()), api.OK}, {with(session(most), seq(most), snap(most)), api.OK}, {with(session(1), seq(1), snap(0)), api.OK},
		{with(session(0)), api.ErrName}, {with(session(-1)), api.ErrName}, {with(session(most + 1)), api.ErrName}, {with(seq(0)), api.ErrName}, {with(seq(-most)), api.ErrName}, {with(seq(most + 1)), api.ErrName},
		{with(snap(-1)), api.ErrName}, {with(snap(most + 1)), api.ErrName}, {with(session(math.MinInt64)), api.ErrName}, {with(snap(math.MaxInt64)), api.ErrName}, {api.Sub{}, api.ErrName},
		{with(reads(rising(16)...), spans(apart(8)...), writes(rising(16)...)), api.OK}, {with(reads(rising(17)...)), api.ErrMany}, {with(spans(apart(9)...)), api.ErrMany}, {with(writes(rising(17)...)), api.ErrMany},
		{with(reads(make([]float64, 17)...)), api.ErrMany}, {with(spans(touching(9)...)), api.ErrMany}, {with(reads(nan)), api.ErrKey}, {with(writes(1, other)), api.ErrKey}, {with(reads(2, 1, nan)), api.ErrKey},
		{with(spans(shut(nan, 1))), api.ErrSpan}, {with(spans(shut(1, other))), api.ErrSpan}, {with(spans(shut(2, 1))), api.ErrSpan}, {with(spans(right(1, 1))), api.ErrSpan}, {with(spans(open(1, up(1)))), api.ErrSpan}, {with(spans(open(0, 0))), api.ErrSpan},
		{with(spans(shut(1, 2), left(inf, inf))), api.ErrSpan}, {with(reads(-inf, 0, inf), writes(-inf, inf)), api.OK}, {with(reads(zero)), api.ErrOrder}, {with(writes(-1, zero, 1)), api.ErrOrder}, {with(reads(1, 1)), api.ErrOrder},
		{with(writes(2, 1)), api.ErrOrder}, {with(spans(shut(-inf, inf))), api.OK}, {with(spans(shut(zero, 1))), api.ErrOrder}, {with(spans(shut(-1, zero))), api.ErrOrder}, {with(spans(right(1, 2))), api.ErrOrder}, {with(spans(left(1, 2))), api.ErrOrder},
		{with(spans(shut(1, 2), shut(2, 3))), api.ErrOrder}, {with(spans(shut(1, 2), shut(up(2), 3))), api.ErrOrder}, {with(spans(shut(1, 2), shut(up(up(2)), 3))), api.OK}, {with(spans(shut(3, 4), shut(1, 2))), api.ErrOrder}, {with(spans(shut(1, 9), shut(2, 3))), api.ErrOrder},
	} {
		if e := sub.Check(c.s); e != c.want {
			t.Errorf("case %d: %v: %d, not %d", i, c.s, e, c.want)
		}
	}
}

// P4.1, P1: of two errors that apply the one named first is answered.
func TestCheckOrderOfErrors(t *testing.T) {
	faults := []struct {
		e    api.Errno
		some []func(s *api.Sub)
	}{
		{api.ErrName, []func(s *api.Sub){session(0), seq(most + 1), snap(-1)}},
		{api.ErrMany, []func(s *api.Sub){reads(rising(17)...), spans(apart(9)...), writes(rising(17)...)}},
		{api.ErrKey, []func(s *api.Sub){reads(nan), writes(nan), nil}},
		{api.ErrSpan, []func(s *api.Sub){nil, spans(shut(2, 1)), spans(shut(nan, 1))}},
		{api.ErrOrder, []func(s *api.Sub){reads(2, 1), spans(right(1, 2)), writes(zero)}},
	}
	for i, first := range faults {
		for _, f := range first.some {
			for _, second := range faults[i:] {
				for _, g := range second.some {
					if f == nil || g == nil {
						continue
					}
					// The first error's change is laid over the second one's.
					s := with(g, f)
					if e := sub.Check(s); e != first.e {
						t.Errorf("%v: %d, not %d ahead of %d", s, e, first.e, second.e)
					}
				}
			}
		}
	}
}

// P4.1: all submissions of the lists above, by the document's words.
func TestCheckAll(t *testing.T) {
	seen := map[api.Errno]int{}
	every(func(s api.Sub) {
		e := sub.Check(s)
		seen[e]++
		if e != sayCheck(s) {
			t.Fatalf("%v: %d, not %d", s, e, sayCheck(s))
		}
		if _, f := sub.Encode(s); f != e {
			t.Fatalf("%v: Encode %d, not %d", s, f, e)
		}
	})
	for _, e := range []api.Errno{api.OK, api.ErrName, api.ErrMany, api.ErrKey, api.ErrSpan, api.ErrOrder} {
		if seen[e] == 0 {
			t.Errorf("nothing was answered %d", e)
		}
	}
}

// P4.1, P4.3
func TestCanonCases(t *testing.T) {
	for i, c := range []struct{ s, want api.Sub }{
		{good(), good()},
		{with(reads(3, 1, 3), spans(right(1, 2), shut(2, 3))), with(reads(1, 3), spans(shut(1, 3)))},
		{with(reads(zero, 0), writes(zero)), with(reads(0), writes(0))},
		{with(reads(inf, -inf), writes(2, 1, 2)), with(reads(-inf, inf), writes(1, 2))},
		{with(reads(make([]float64, 1000)...), writes(make([]float64, 17)...)), with(reads(0), writes(0))},
		{with(reads(append(rising(16), rising(16)...)...)), with(reads(rising(16)...))},
		{with(spans(touching(9)...)), with(spans(shut(0, down(9))))},
		{with(spans(touching(500)...)), with(spans(shut(0, down(500))))},
		{with(spans(append([]api.Span{shut(2, 1), open(0, 0), right(5, 5)}, apart(8)...)...)), with(spans(apart(8)...))},
		{with(spans(open(1, up(1)))), with(spans())},
		{with(spans(shut(zero, zero), open(1, 2))), with(spans(shut(0, 0), shut(up(1), down(2))))},
		{with(spans(shut(3, 4), shut(1, 2))), with(spans(shut(1, 2), shut(3, 4)))},
		{with(spans(shut(1, 9), left(2, 10), shut(-inf, -inf))), with(spans(shut(-inf, -inf), shut(1, 10)))},
		{with(numbers(most, most, most), reads(), writes(), spans()), with(numbers(most, most, most), reads(), writes(), spans())},
	} {
		if got, e := sub.Canon(c.s); e != api.OK || !alike(got, c.want) {
			t.Errorf("case %d: %v is %v, %d", i, c.s, got, e)
		}
	}
	for i, c := range []struct {
		s    api.Sub
		want api.Errno
	}{
		{with(session(0), reads(rising(17)...)), api.ErrName}, {with(seq(most+1), writes(nan)), api.ErrName}, {with(snap(-1), spans(shut(nan, 1))), api.ErrName},
		{with(reads(append(rising(17), 0)...), writes(nan)), api.ErrMany}, {with(reads(append(rising(16), nan)...)), api.ErrMany}, {with(writes(append(rising(16), other)...)), api.ErrMany}, {with(writes(rising(17)...), spans(shut(nan, 1))), api.ErrMany},
		{with(spans(append(apart(9), shut(nan, 1))...)), api.ErrMany}, {with(spans(apart(9)...), reads(nan)), api.ErrMany}, {with(reads(append(rising(15), nan, other)...)), api.ErrKey}, {with(writes(nan), spans(shut(1, nan))), api.ErrKey},
		{with(spans(append(apart(8), shut(nan, 1))...)), api.ErrSpan}, {with(spans(shut(1, 2), open(other, nan))), api.ErrSpan},
	} {
		if got, e := sub.Canon(c.s); e != c.want || !isZero(got) {
			t.Errorf("case %d: %v is %v, %d, not %d", i, c.s, got, e, c.want)
		}
	}
}

// line is keys at which two submissions of the lists above would differ.
func line() []float64 {
	out := []float64{-inf, inf, math.MaxFloat64, -math.MaxFloat64}
	for x := -2.0; x < 42; x += 0.5 {
		out = append(out, down(x), x, up(x), up(up(x)))
	}
	return out
}

// P4.1, P4.3: all submissions of the lists above: the answer is right, has the same numbers and keys, and stays.
func TestCanonAll(t *testing.T) {
	keys := line()
	every(func(s api.Sub) {
		c, e := sub.Canon(s)
		if e != sayCanon(s) || e != api.OK && !isZero(c) {
			t.Fatalf("%v: %v, %d, not %d", s, c, e, sayCanon(s))
		}
		if e != api.OK {
			return
		}
		again, f := sub.Canon(c)
		if sayCheck(c) != api.OK || sub.Check(c) != api.OK || c.Session != s.Session || c.Seq != s.Seq || c.Snap != s.Snap || f != api.OK || !alike(again, c) {
			t.Fatalf("%v: %v, and again %v, %d", s, c, again, f)
		}
		// Each mixture of lists comes with a Snap of 0 once; the keys don't hang on the numbers.
		if s.Snap == 0 {
			sameKeys(t, s, c, keys)
		}
		if sayCheck(s) == api.OK && !alike(c, s) {
			t.Fatalf("%v is right, but is canonised as %v", s, c)
		}
	})
}

func sameKeys(t *testing.T, s, c api.Sub, keys []float64) {
	t.Helper()
	covers := func(ss []api.Span, key float64) bool {
		return slices.ContainsFunc(ss, func(x api.Span) bool { return has(x, key) })
	}
	for _, k := range keys {
		if slices.Contains(s.Reads, k) != slices.Contains(c.Reads, k) || slices.Contains(s.Writes, k) != slices.Contains(c.Writes, k) || covers(s.Spans, k) != covers(c.Spans, k) {
			t.Fatalf("%v and %v differ at %v", s, c, k)
		}
	}
}

// P4.1
func TestReadsAndWrites(t *testing.T) {
	s := api.Sub{Reads: []float64{7, zero, nan, 7, -inf}, Spans: []api.Span{right(1, 2), shut(nan, 100), shut(9, 8), left(1.5, 3), open(4, 5)}, Writes: []float64{inf, 0, other, -3}}
	for key, want := range map[float64][2]bool{0: {true, true}, zero: {true, true}, 7: {true, false}, up(7): {false, false}, -inf: {true, false}, inf: {false, true}, -3: {false, true}, 1: {true, false}, down(1): {false, false},
		2: {true, false}, 3: {true, false}, up(3): {false, false}, 4: {false, false}, up(4): {true, false}, down(5): {true, false}, 5: {false, false}, 8.5: {false, false}, 50: {false, false}} {
		if r, w := sub.Reads(s, key), sub.Writes(s, key); r != want[0] || w != want[1] {
			t.Errorf("%v: read %v, written %v", key, r, w)
		}
	}
	for _, x := range []float64{nan, other} {
		if sub.Reads(s, x) || sub.Writes(s, x) || sub.Reads(api.Sub{Spans: []api.Span{shut(-inf, inf)}}, x) {
			t.Errorf("NaN (%x) is no key, but is read or written", math.Float64bits(x))
		}
	}
	if sub.Reads(api.Sub{}, 0) || sub.Writes(api.Sub{}, 0) || sub.Reads(api.Sub{Writes: []float64{1}}, 1) || sub.Writes(api.Sub{Reads: []float64{1}, Spans: []api.Span{shut(1, 1)}}, 1) {
		t.Error("a key that isn't there")
	}
}

// P4.1: at all lists, by the document's words.
func TestReadsWritesMeetsAll(t *testing.T) {
	keys := []float64{-inf, -1, down(0), zero, 0, up(0), 1, up(1), 2, up(2), 3, 3.5, 8.5, 9, 22.5, 24, inf, nan}
	for _, r := range keyLists() {
		for _, ss := range spanLists() {
			a := api.Sub{Reads: r, Spans: ss, Writes: []float64{8.5, 99}}
			for _, k := range keys {
				want := slices.Contains(r, k) || slices.ContainsFunc(ss, func(x api.Span) bool { return has(x, k) })
				if sub.Reads(a, k) != want || sub.Meets(a, api.Sub{Reads: []float64{1, 2}, Writes: []float64{k}}) != want || sub.Writes(api.Sub{Writes: r}, k) != slices.Contains(r, k) {
					t.Fatalf("%v: %v: read %v", a, k, sub.Reads(a, k))
				}
			}
			for _, w := range keyLists() {
				want := slices.ContainsFunc(w, func(k float64) bool { return sub.Reads(a, k) })
				if got := sub.Meets(a, api.Sub{Reads: r, Spans: ss, Writes: w}); got != want {
					t.Fatalf("%v meets %v: %v", a, w, got)
				}
			}
		}
	}
}

// P4.1
func TestMeetsCases(t *testing.T) {
	for i, c := range []struct {
		a, b api.Sub
		want bool
	}{
		{api.Sub{Spans: []api.Span{shut(1, 3)}}, api.Sub{Writes: []float64{2}}, true}, {api.Sub{Writes: []float64{2}}, api.Sub{Spans: []api.Span{shut(1, 3)}}, false}, {api.Sub{Reads: []float64{1, 2}}, api.Sub{Writes: []float64{0, 2}}, true},
		{api.Sub{Reads: []float64{0}}, api.Sub{Writes: []float64{zero}}, true}, {api.Sub{Writes: []float64{2}}, api.Sub{Writes: []float64{2}}, false}, {api.Sub{Reads: []float64{2}}, api.Sub{Reads: []float64{2}}, false},
		{api.Sub{Spans: []api.Span{open(1, 3)}}, api.Sub{Writes: []float64{1, 3}}, false}, {api.Sub{Reads: []float64{nan}}, api.Sub{Writes: []float64{nan}}, false}, {api.Sub{}, good(), false}, {good(), api.Sub{}, false}, {good(), good(), true},
	} {
		if got := sub.Meets(c.a, c.b); got != c.want {
			t.Errorf("case %d: %v", i, got)
		}
	}
}
