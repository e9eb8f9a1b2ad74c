package span_test

import (
	"math"
	"slices"
	"testing"

	"quillet/api"
	"quillet/span"
)

var (
	inf   = math.Inf(1)
	zero  = math.Copysign(0, -1)
	least = math.SmallestNonzeroFloat64
	empty = api.Span{LoOpen: true, HiOpen: true}
)

func up(x float64) float64   { return math.Nextafter(x, inf) }
func down(x float64) float64 { return math.Nextafter(x, -inf) }

func shut(lo, hi float64) api.Span  { return api.Span{Lo: lo, Hi: hi} }
func left(lo, hi float64) api.Span  { return api.Span{Lo: lo, Hi: hi, LoOpen: true} }
func right(lo, hi float64) api.Span { return api.Span{Lo: lo, Hi: hi, HiOpen: true} }
func open(lo, hi float64) api.Span  { return api.Span{Lo: lo, Hi: hi, LoOpen: true, HiOpen: true} }

// ends are the numbers of which the spans of these tests are made.
func ends() []float64 {
	nan := math.Float64frombits(0xFFF0000000000001)
	return []float64{nan, -inf, -math.MaxFloat64, -least, zero, 0, least, 1, up(1), up(up(1)), 2, math.MaxFloat64, inf}
}

// line is the keys that are asked for: the ends and their neighbours, rising, each once. A span's first
// and last key are among them, and so is the one behind the last: so what a span has of the line tells its form.
func line() []float64 {
	var out []float64
	for _, x := range ends() {
		if !math.IsNaN(x) {
			out = append(out, down(x)+0, x+0, up(x)+0) // -0 + 0 is 0
		}
	}
	slices.Sort(out)
	return slices.Compact(out)
}

func all() []api.Span {
	var out []api.Span
	for _, lo := range ends() {
		for _, hi := range ends() {
			out = append(out, shut(lo, hi), left(lo, hi), right(lo, hi), open(lo, hi))
		}
	}
	return out
}

// has says by the document's words whether a span has a key.
func has(s api.Span, key float64) bool {
	lo := s.Lo < key || s.Lo == key && !s.LoOpen
	hi := key < s.Hi || key == s.Hi && !s.HiOpen
	return lo && hi
}

// keys is which keys of the line a span has, a bit each.
func keys(s api.Span) uint64 {
	var m uint64
	for i, k := range line() {
		if has(s, k) {
			m |= 1 << i
		}
	}
	return m
}

// runs is the forms of the line's keys that a mask has, one for each run of neighbours.
func runs(m uint64) []api.Span {
	var out []api.Span
	before := false
	for i, k := range line() {
		now := m&(1<<i) != 0
		if now && before {
			out[len(out)-1].Hi = k
		} else if now {
			out = append(out, shut(k, k))
		}
		before = now
	}
	return out
}

// form is the form of the keys of a mask, and whether these are a span's.
func form(m uint64) (api.Span, bool) {
	switch r := runs(m); len(r) {
	case 0:
		return empty, true
	case 1:
		return r[0], true
	}
	return empty, false
}

// forms is form of each mask that comes up, worked out once.
type forms map[uint64]struct {
	s  api.Span
	ok bool
}

func (f forms) of(m uint64) (api.Span, bool) {
	x, there := f[m]
	if !there {
		x.s, x.ok = form(m)
		f[m] = x
	}
	return x.s, x.ok
}

// alike tells whether two spans are the same bit for bit, which == doesn't: it takes -0 for 0.
func alike(a, b api.Span) bool {
	return math.Float64bits(a.Lo) == math.Float64bits(b.Lo) && math.Float64bits(a.Hi) == math.Float64bits(b.Hi) && a.LoOpen == b.LoOpen && a.HiOpen == b.HiOpen
}

func TestTheLineHasRoom(t *testing.T) {
	if n := len(line()); n > 64 {
		t.Fatalf("the line has %d keys, a mask 64 bits", n)
	}
}

// P2.1
func TestRight(t *testing.T) {
	for _, s := range all() {
		if want := s.Lo == s.Lo && s.Hi == s.Hi; span.Right(s) != want {
			t.Errorf("Right(%v) = %v", s, !want)
		}
	}
	if span.Right(shut(math.NaN(), 1)) || span.Right(shut(1, math.NaN())) || !span.Right(shut(2, 1)) || !span.Right(empty) {
		t.Error("Right of what has no key")
	}
}

// P2.1, P2.3
func TestCanonEmptyAndHas(t *testing.T) {
	nan := math.NaN()
	for _, s := range all() {
		m := keys(s)
		want, _ := form(m)
		if got := span.Canon(s); !alike(got, want) || !alike(span.Canon(got), want) {
			t.Errorf("Canon(%v) = %v, not %v", s, got, want)
		}
		if span.Empty(s) != (m == 0) {
			t.Errorf("Empty(%v) = %v", s, m != 0)
		}
		for _, k := range line() {
			if span.Has(s, k) != has(s, k) {
				t.Errorf("Has(%v, %v) = %v", s, k, !has(s, k))
			}
		}
		if span.Has(s, nan) || span.Has(s, math.Float64frombits(0xFFFFFFFFFFFFFFFF)) || span.Has(s, zero) != has(s, 0) {
			t.Errorf("Has(%v) of NaN or -0", s)
		}
	}
}

// P2.1
func TestFormsOfTheChapter(t *testing.T) {
	for _, c := range []struct{ in, want api.Span }{
		{right(1, 2), shut(1, down(2))},
		{shut(1, 2), shut(1, 2)},
		{left(1, 1), empty},
		{right(1, 1), empty},
		{shut(1, 1), shut(1, 1)},
		{shut(zero, zero), shut(0, 0)},
		{left(-least, 0), shut(0, 0)},
		{right(zero, least), shut(0, 0)},
		{open(-least, least), shut(0, 0)},
		{open(1, up(1)), empty},
		{open(1, up(up(1))), shut(up(1), up(1))},
		{shut(2, 1), empty},
		{shut(-inf, inf), shut(-inf, inf)},
		{open(-inf, inf), shut(-math.MaxFloat64, math.MaxFloat64)},
		{left(inf, inf), empty},
		{right(-inf, -inf), empty},
		{right(-inf, -math.MaxFloat64), shut(-inf, -inf)},
		{left(math.MaxFloat64, inf), shut(inf, inf)},
		{shut(math.NaN(), math.NaN()), empty},
		{open(math.NaN(), 1), empty},
		{open(1, math.NaN()), empty},
		{api.Span{}, shut(0, 0)},
		{empty, empty},
	} {
		if got := span.Canon(c.in); !alike(got, c.want) || span.Empty(c.in) != (c.want == empty) {
			t.Errorf("Canon(%v) = %v, not %v", c.in, got, c.want)
		}
	}
}

// P2.1, P2.3: of each two spans, held against the keys that they have.
func TestTwoSpansFitTheirKeys(t *testing.T) {
	spans, known := all(), forms{}
	masks := make([]uint64, len(spans))
	for i, s := range spans {
		masks[i] = keys(s)
	}
	for i, a := range spans {
		for k, b := range spans {
			m, n := masks[i], masks[k]
			meet, _ := known.of(m & n)
			join, ok := known.of(m | n)
			if got := span.Meet(a, b); !alike(got, meet) {
				t.Fatalf("Meet(%v, %v) = %v, not %v", a, b, got, meet)
			}
			if got, is := span.Join(a, b); !alike(got, join) || is != ok {
				t.Fatalf("Join(%v, %v) = %v, %v, not %v, %v", a, b, got, is, join, ok)
			}
			if span.Apart(a, b) != (m&n == 0) || span.Within(a, b) != (m&^n == 0) {
				t.Fatalf("Apart(%v, %v) = %v, Within %v", a, b, span.Apart(a, b), span.Within(a, b))
			}
			if (span.Canon(a) == span.Canon(b)) != (m == n) {
				t.Fatalf("the forms of %v and %v are the same: %v", a, b, m != n)
			}
		}
	}
}

// P2.1, P2.3
func TestTwoSpansOfTheChapter(t *testing.T) {
	if got := span.Meet(right(1, 3), shut(2, 5)); got != span.Canon(right(2, 3)) {
		t.Errorf("Meet = %v", got)
	}
	for _, c := range []struct {
		a, b, want api.Span
		ok         bool
	}{
		{right(1, 2), shut(2, 3), shut(1, 3), true},
		{open(1, 2), left(2, 3), empty, false},
		{left(2, 3), open(1, 2), empty, false},
		{shut(1, 2), shut(up(2), 3), shut(1, 3), true},
		{shut(1, 2), shut(up(up(2)), 3), empty, false},
		{shut(1, 9), shut(2, 3), shut(1, 9), true},
		{shut(inf, inf), shut(-inf, -inf), empty, false},
		{shut(0, inf), shut(inf, inf), shut(0, inf), true},
		{left(1, 1), left(2, 3), shut(up(2), 3), true},
		{shut(1, 2), shut(math.NaN(), 5), shut(1, 2), true},
		{shut(2, 1), open(math.NaN(), 1), empty, true},
	} {
		if got, ok := span.Join(c.a, c.b); !alike(got, c.want) || ok != c.ok {
			t.Errorf("Join(%v, %v) = %v, %v", c.a, c.b, got, ok)
		}
	}
	if !span.Within(left(1, 1), shut(5, 6)) || span.Within(shut(5, 6), left(1, 1)) || !span.Within(shut(math.NaN(), 1), empty) || !span.Apart(empty, empty) {
		t.Error("Within and Apart of what has no key")
	}
}

// P2.1
func TestCmpIsTheOrderOfForms(t *testing.T) {
	spans := all()
	want := make([][2]int, len(spans))
	for i, s := range spans {
		want[i] = [2]int{-1, -1}
		if f, _ := form(keys(s)); f != empty {
			want[i] = [2]int{slices.Index(line(), f.Lo), slices.Index(line(), f.Hi)}
		}
	}
	for i, a := range spans {
		for k, b := range spans {
			if got, w := span.Cmp(a, b), slices.Compare(want[i][:], want[k][:]); got != w {
				t.Fatalf("Cmp(%v, %v) = %d, not %d", a, b, got, w)
			}
		}
	}
	if span.Cmp(empty, shut(-inf, -inf)) != -1 || span.Cmp(shut(-5, -5), empty) != 1 || span.Cmp(left(4, 4), shut(1, math.NaN())) != 0 || span.Cmp(shut(1, 3), shut(2, 2)) != -1 || span.Cmp(shut(1, 3), shut(1, 2)) != 1 || span.Cmp(right(1, 2), shut(1, 2)) != -1 {
		t.Error("Cmp")
	}
}

// lists are lists of spans, short ones and longer ones, the same at every run.
func lists() [][]api.Span {
	out := [][]api.Span{nil, {}, {empty}, {shut(math.NaN(), 1), left(1, 1), shut(2, 1)}}
	spans, u := all(), uint64(1)
	for n := range 3000 {
		var ss []api.Span
		for range n % 9 {
			u = u*6364136223846793005 + 1442695040888963407
			ss = append(ss, spans[(u>>33)%uint64(len(spans))])
		}
		out = append(out, ss)
	}
	return out
}

// narrow are lists of which most lie apart: what wide ones would hide.
func narrow() [][]api.Span {
	var cells []api.Span
	for _, k := range line() {
		cells = append(cells, shut(k, k))
	}
	var out [][]api.Span
	u := uint64(7)
	for n := range 1000 {
		var ss []api.Span
		for range n % 12 {
			u = u*6364136223846793005 + 1442695040888963407
			ss = append(ss, cells[(u>>33)%uint64(len(cells))])
		}
		out = append(out, ss)
	}
	return out
}

// wanted is the runs of all keys that real neighbours make: on the line, two that stand beside each other may have others between them.
func wanted(ss []api.Span) []api.Span {
	var m uint64
	for _, s := range ss {
		m |= keys(s)
	}
	inner := uint64(0)
	for _, s := range ss {
		inner |= keys(s) & (keys(s) << 1) // ahead of these the span itself goes on
	}
	var out []api.Span
	for i, k := range line() {
		now := m&(1<<i) != 0
		on := now && i > 0 && m&(1<<(i-1)) != 0 && (inner&(1<<i) != 0 || up(line()[i-1]) == k)
		if on {
			out[len(out)-1].Hi = k
		} else if now {
			out = append(out, shut(k, k))
		}
	}
	return out
}

// P2.1, P2.2
func TestNorm(t *testing.T) {
	for _, ss := range append(lists(), narrow()...) {
		want := wanted(ss)
		got := span.Norm(ss)
		if !slices.EqualFunc(got, want, alike) {
			t.Fatalf("Norm(%v) = %v, not %v", ss, got, want)
		}
		if again := span.Norm(got); !slices.EqualFunc(again, want, alike) {
			t.Fatalf("Norm of Norm(%v) = %v", ss, again)
		}
		turned := slices.Clone(ss)
		slices.Reverse(turned)
		if got := span.Norm(turned); !slices.EqualFunc(got, want, alike) {
			t.Fatalf("Norm(%v) = %v, turned round %v", ss, want, got)
		}
		if twice := span.Norm(append(turned, ss...)); !slices.EqualFunc(twice, want, alike) {
			t.Fatalf("Norm(%v) = %v, each twice %v", ss, want, twice)
		}
	}
}

// P2.2
func TestNormHasTheSameKeys(t *testing.T) {
	for _, ss := range lists() {
		got := span.Norm(ss)
		for _, k := range append(line(), zero, math.NaN()) {
			want := slices.ContainsFunc(ss, func(s api.Span) bool { return has(s, k) })
			if span.Covers(ss, k) != want || span.Covers(got, k) != want {
				t.Fatalf("Covers(%v, %v) = %v, of Norm %v", ss, k, span.Covers(ss, k), span.Covers(got, k))
			}
		}
		for i, s := range got {
			if s.LoOpen || s.HiOpen || i > 0 && up(got[i-1].Hi) >= s.Lo {
				t.Fatalf("Norm(%v) = %v: %v is no form, or joins the one ahead", ss, got, s)
			}
		}
	}
}

// P2.2
func TestNormOfTheEdges(t *testing.T) {
	for _, c := range []struct{ in, want []api.Span }{
		{[]api.Span{shut(2, 3), left(9, 9), right(0, 1), right(1, 2), shut(5, 6), shut(5, 5)}, []api.Span{shut(0, 3), shut(5, 6)}},
		{[]api.Span{open(1, 2), left(2, 3)}, []api.Span{shut(up(1), down(2)), shut(up(2), 3)}},
		{[]api.Span{open(1, 2), left(2, 3), shut(2, 2)}, []api.Span{shut(up(1), 3)}},
		{[]api.Span{shut(0, 9), shut(1, 2), shut(3, 4), shut(8, 10)}, []api.Span{shut(0, 10)}},
		{[]api.Span{shut(0, 9), shut(1, 2), shut(11, 12)}, []api.Span{shut(0, 9), shut(11, 12)}},
		{[]api.Span{shut(inf, inf), shut(-inf, -inf), shut(inf, inf)}, []api.Span{shut(-inf, -inf), shut(inf, inf)}},
		{[]api.Span{right(-inf, zero), left(0, inf)}, []api.Span{shut(-inf, -least), shut(least, inf)}},
		{[]api.Span{right(-inf, 0), shut(zero, inf)}, []api.Span{shut(-inf, inf)}},
		{[]api.Span{shut(zero, zero), shut(0, 0), {}}, []api.Span{shut(0, 0)}},
		{[]api.Span{empty, empty}, nil},
	} {
		if got := span.Norm(c.in); !slices.EqualFunc(got, c.want, alike) {
			t.Errorf("Norm(%v) = %v", c.in, got)
		}
	}
	if span.Covers(nil, 0) || span.Covers([]api.Span{}, 0) || span.Covers([]api.Span{empty, shut(math.NaN(), 1)}, 0) {
		t.Error("Covers of no keys")
	}
}

// P2.1, P2.3
func TestOne(t *testing.T) {
	for _, k := range line() {
		if got := span.One(k); !alike(got, shut(k, k)) || !span.Has(got, k) {
			t.Errorf("One(%v) = %v", k, got)
		}
	}
	if !alike(span.One(zero), shut(0, 0)) || !alike(span.One(math.NaN()), empty) || !alike(span.One(math.Float64frombits(0x7FF0000000000001)), empty) {
		t.Error("One of -0 or NaN")
	}
}

// P2.4
func TestArgumentsStay(t *testing.T) {
	back := []api.Span{shut(5, 6), right(zero, 2), empty, shut(math.NaN(), 1), shut(5, 5), left(1, 1), shut(2, zero), shut(2, 3)}
	kept := slices.Clone(back)
	for n := range len(back) + 1 {
		span.Norm(back[:n])
		span.Covers(back[:n], 5)
		if !slices.EqualFunc(back, kept, alike) {
			t.Fatalf("with %d of them the argument is %v", n, back)
		}
	}
}

// P2.4
func TestAnswersAreNewMemory(t *testing.T) {
	in := []api.Span{shut(1, 2), shut(4, 5), shut(7, 8), shut(10, 11)} // normed already: nothing would need to be made anew
	kept := slices.Clone(in)
	for n := range len(in) + 1 {
		got, again := span.Norm(in[:n]), span.Norm(in[:n])
		whole := got[:cap(got)]
		for i := range whole {
			whole[i] = shut(-7, -7)
		}
		if !slices.Equal(in, kept) || !slices.Equal(again, kept[:n]) {
			t.Fatalf("the answer to %d shares memory", n)
		}
		in[0] = shut(20, 21)
		if !slices.Equal(again, kept[:n]) {
			t.Fatalf("the answer to %d is the argument", n)
		}
		in[0] = kept[0]
	}
}
