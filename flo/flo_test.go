package flo_test

import (
	"math"
	"slices"
	"strconv"
	"strings"
	"testing"

	"quillet/flo"
)

const (
	formNaN  = 0x7FF8000000000001
	sign     = 1 << 63
	infBits  = 0x7FF0000000000000
	maxBits  = 0x7FEFFFFFFFFFFFFF // the greatest finite number
	normBits = 0x0010000000000000 // the least one with a full mantissa
	oneBits  = 0x3FF0000000000000
)

// nanBits are NaNs of several bits: quiet and signalling, of both signs, the least and the greatest payload.
var nanBits = []uint64{formNaN, 0x7FF8000000000000, 0x7FF0000000000001, 0x7FF7FFFFFFFFFFFF, 0x7FFFFFFFFFFFFFFF, 0xFFF0000000000001, 0xFFF8000000000000, 0xFFF8000000000001, 0xFFFFFFFFFFFFFFFF}

// rising are the bits of forms in their order; between two names of one line nothing lies.
var rising = []uint64{
	formNaN, sign | infBits, sign | maxBits, sign | (maxBits - 1),
	sign | (oneBits + 1), sign | oneBits, sign | (oneBits - 1),
	sign | (normBits + 1), sign | normBits, sign | (normBits - 1),
	sign | 2, sign | 1, 0, 1, 2,
	normBits - 1, normBits, normBits + 1,
	oneBits - 1, oneBits, oneBits + 1,
	maxBits - 1, maxBits, infBits,
}

func at(u uint64) float64 { return math.Float64frombits(u) }

// formBits says the form of bits by the document's words, without arithmetic on floats.
func formBits(u uint64) uint64 {
	switch {
	case u == sign:
		return 0
	case u&^sign > infBits:
		return formNaN
	}
	return u
}

// codeOf says the code of bits by the document's words.
func codeOf(u uint64) uint64 {
	f := formBits(u)
	switch {
	case f == formNaN:
		return 0
	case f&sign == 0:
		return f | sign
	}
	return ^f
}

// many are bits of all sorts: the edges, NaNs, -0, and some scattered ones, the same at every run.
func many() []uint64 {
	out := append([]uint64{sign}, rising...)
	out = append(out, nanBits...)
	u := uint64(1)
	for range 2000 {
		u = u*6364136223846793005 + 1442695040888963407
		out = append(out, u^u>>29)
	}
	return out
}

func few() []uint64 {
	return append(append([]uint64{sign}, rising...), nanBits...)
}

func bitsAre(x float64, u uint64) bool { return math.Float64bits(x) == u }

func wantCmp(a, b uint64) int {
	switch x, y := codeOf(a), codeOf(b); {
	case x < y:
		return -1
	case x > y:
		return 1
	}
	return 0
}

// P1.1
func TestCanonIsTheForm(t *testing.T) {
	for _, u := range many() {
		if got := flo.Canon(at(u)); !bitsAre(got, formBits(u)) {
			t.Errorf("Canon of %x = %x", u, math.Float64bits(got))
		}
	}
	if !bitsAre(flo.Canon(math.Copysign(0, -1)), 0) || flo.Canon(-2.5) != -2.5 {
		t.Error("Canon of -0 or -2.5")
	}
}

// P1.1, P1.2
func TestCmpFollowsTheOrder(t *testing.T) {
	for i, a := range rising {
		for k, b := range rising {
			want := 0
			if i < k {
				want = -1
			} else if i > k {
				want = 1
			}
			if got := flo.Cmp(at(a), at(b)); got != want {
				t.Errorf("Cmp(%v, %v) = %d", at(a), at(b), got)
			}
		}
	}
	for _, u := range nanBits {
		if flo.Cmp(at(u), math.NaN()) != 0 || flo.Cmp(at(u), math.Inf(-1)) != -1 || flo.Cmp(math.Inf(-1), at(u)) != 1 {
			t.Errorf("Cmp with the NaN %x", u)
		}
	}
	if flo.Cmp(at(sign), 0) != 0 || flo.Cmp(0, at(sign)) != 0 || flo.Cmp(at(sign), at(1)) != -1 || flo.Cmp(at(sign), at(sign|1)) != 1 {
		t.Error("Cmp with -0")
	}
}

// P1.2
func TestOrderIsOne(t *testing.T) {
	all := few()
	for _, a := range all {
		for _, b := range all {
			ab := flo.Cmp(at(a), at(b))
			if ab < -1 || ab > 1 || flo.Cmp(at(b), at(a)) != -ab {
				t.Fatalf("Cmp of %x and %x is not turned round", a, b)
			}
			if (ab == 0) != (formBits(a) == formBits(b)) {
				t.Fatalf("%x and %x: the same as one another? Cmp = %d", a, b, ab)
			}
			for _, c := range all {
				if ab == flo.Cmp(at(b), at(c)) && flo.Cmp(at(a), at(c)) != ab {
					t.Fatalf("Cmp of %x, %x, %x doesn't go through", a, b, c)
				}
			}
		}
	}
}

// P1.2
func TestCodeKeepsTheOrder(t *testing.T) {
	all := many()
	for i, a := range all {
		if got := flo.Code(at(a)); got != codeOf(a) {
			t.Errorf("Code of %x = %x", a, got)
		}
		b := all[len(all)-1-i]
		if got := flo.Cmp(at(a), at(b)); got != wantCmp(a, b) {
			t.Errorf("Cmp of %x and %x = %d, their codes say %d", a, b, got, wantCmp(a, b))
		}
	}
	for i := 1; i < len(rising); i++ {
		if flo.Code(at(rising[i-1])) >= flo.Code(at(rising[i])) {
			t.Errorf("Code doesn't rise to %v", at(rising[i]))
		}
	}
	if flo.Code(0) != 1<<63 || flo.Code(at(sign)) != 1<<63 || flo.Code(math.NaN()) != 0 {
		t.Error("Code of 0, -0 or NaN")
	}
}

// P1.2, P3
func TestFromLeadsBack(t *testing.T) {
	for _, u := range many() {
		x, ok := flo.From(flo.Code(at(u)))
		if !ok || !bitsAre(x, formBits(u)) {
			t.Errorf("From of the code of %x = %x, %v", u, math.Float64bits(x), ok)
		}
	}
	if x, ok := flo.From(0); !ok || !bitsAre(x, formNaN) {
		t.Error("From(0)")
	}
}

// P1.1: codes that no number has.
func TestFromRefuses(t *testing.T) {
	const first, below, last = 0x000FFFFFFFFFFFFF, 0x7FFFFFFFFFFFFFFE, 0xFFF0000000000000 // -Inf, the last below 0, +Inf
	codes := append([]uint64{1, 2, first - 1, first, first + 1, below - 1, below, below + 1, sign, sign + 1, last - 1, last, last + 1, math.MaxUint64 - 1, math.MaxUint64, formNaN, ^uint64(formNaN), formNaN | sign}, many()...)
	for _, u := range codes {
		is := u == 0 || u >= first && u <= below || u >= sign && u <= last
		x, ok := flo.From(u)
		if ok != is {
			t.Errorf("From(%x) = %v, %v", u, x, ok)
		}
		if ok && flo.Code(x) != u {
			t.Errorf("From(%x) has the code %x", u, flo.Code(x))
		}
		if !ok && !bitsAre(x, 0) {
			t.Errorf("From(%x) = %v beside false", u, x)
		}
	}
}

// P1.1, P1.3
func TestNextAndPrevAtTheEdges(t *testing.T) {
	steps := [][2]uint64{
		{formNaN, sign | infBits}, {sign | infBits, sign | maxBits}, {sign | maxBits, sign | (maxBits - 1)},
		{sign | (oneBits + 1), sign | oneBits}, {sign | oneBits, sign | (oneBits - 1)},
		{sign | normBits, sign | (normBits - 1)}, {sign | 2, sign | 1}, {sign | 1, 0}, {0, 1}, {1, 2},
		{normBits - 1, normBits}, {oneBits - 1, oneBits}, {oneBits, oneBits + 1}, {maxBits - 1, maxBits}, {maxBits, infBits},
	}
	for _, s := range steps {
		if n, p := flo.Next(at(s[0])), flo.Prev(at(s[1])); !bitsAre(n, s[1]) || !bitsAre(p, s[0]) {
			t.Errorf("Next(%v) = %v, Prev(%v) = %v", at(s[0]), n, at(s[1]), p)
		}
	}
	for _, u := range nanBits {
		if !bitsAre(flo.Next(at(u)), sign|infBits) || !bitsAre(flo.Prev(at(u)), formNaN) {
			t.Errorf("Next or Prev of the NaN %x", u)
		}
	}
	if !bitsAre(flo.Next(at(sign)), 1) || !bitsAre(flo.Prev(at(sign)), sign|1) {
		t.Error("Next or Prev of -0")
	}
	if !bitsAre(flo.Next(math.Inf(1)), infBits) || flo.Text(flo.Next(math.Inf(-1))) != "-1.7976931348623157e+308" {
		t.Error("Next of the infinities")
	}
}

// P1.3
func TestNothingLiesBetween(t *testing.T) {
	for _, u := range many() {
		x := at(u)
		n, p := flo.Next(x), flo.Prev(x)
		if formBits(u) != infBits {
			if flo.Cmp(x, n) != -1 || !bitsAre(flo.Prev(n), formBits(u)) {
				t.Errorf("Prev(Next(%v)) = %v", x, flo.Prev(n))
			}
			between(t, codeOf(u), codeOf(math.Float64bits(n)))
		}
		if formBits(u) != formNaN {
			if flo.Cmp(p, x) != -1 || !bitsAre(flo.Next(p), formBits(u)) {
				t.Errorf("Next(Prev(%v)) = %v", x, flo.Next(p))
			}
			between(t, codeOf(math.Float64bits(p)), codeOf(u))
		}
	}
}

// between fails if a number's code lies between two codes. Two gaps are known: between NaN and -Inf, and -0's place.
func between(t *testing.T, low, high uint64) {
	t.Helper()
	if low+1 == high || low == 0 && high == 0x000FFFFFFFFFFFFF || low == sign-2 && high == sign {
		return
	}
	t.Errorf("between the codes %x and %x there are others", low, high)
}

// P1.1
func TestLeastAndMost(t *testing.T) {
	nan, inf, zero := math.NaN(), math.Inf(1), at(sign)
	for _, c := range []struct {
		xs          []float64
		least, most uint64
	}{
		{nil, formNaN, formNaN},
		{[]float64{}, formNaN, formNaN},
		{[]float64{zero}, 0, 0},
		{[]float64{at(0xFFFFFFFFFFFFFFFF)}, formNaN, formNaN},
		{[]float64{0, zero}, 0, 0},
		{[]float64{zero, 0, zero}, 0, 0},
		{[]float64{1, at(0xFFF8000000000000)}, formNaN, oneBits},
		{[]float64{at(0x7FF0000000000001), -inf}, formNaN, sign | infBits},
		{[]float64{-inf, inf, 0}, sign | infBits, infBits},
		{[]float64{inf, -inf}, sign | infBits, infBits},
		{[]float64{zero, nan, at(sign | oneBits)}, formNaN, 0},
		{[]float64{at(1), zero, at(2)}, 0, 2},
		{[]float64{at(sign | 1), at(sign | 2), at(sign | 1)}, sign | 2, sign | 1},
	} {
		if got := flo.Least(c.xs...); !bitsAre(got, c.least) {
			t.Errorf("Least(%v) = %v", c.xs, got)
		}
		if got := flo.Most(c.xs...); !bitsAre(got, c.most) {
			t.Errorf("Most(%v) = %v", c.xs, got)
		}
	}
	if !bitsAre(flo.Least(), formNaN) || !bitsAre(flo.Most(), formNaN) {
		t.Error("Least or Most of none")
	}
}

// P1.1, P3
func TestTextIsReadBack(t *testing.T) {
	for _, u := range many() {
		s := flo.Text(at(u))
		if want := strconv.FormatFloat(at(formBits(u)), 'g', -1, 64); s != want {
			t.Errorf("Text of %x = %q", u, s)
		}
		if x, ok := flo.Parse(s); !ok || !bitsAre(x, formBits(u)) {
			t.Errorf("Parse(%q) = %v, %v", s, x, ok)
		}
	}
	for s, u := range map[string]uint64{
		"NaN": 0xFFFFFFFFFFFFFFFF, "-Inf": sign | infBits, "+Inf": infBits, "0": sign, "1": oneBits, "-1": sign | oneBits,
		"5e-324": 1, "-5e-324": sign | 1, "1.7976931348623157e+308": maxBits, "-1.7976931348623157e+308": sign | maxBits,
		"0.1": 0x3FB999999999999A, "100000": 0x40F86A0000000000, "1e+21": 0x444B1AE4D6E2EF50,
	} {
		if got := flo.Text(at(u)); got != s {
			t.Errorf("Text of %x = %q, not %q", u, got, s)
		}
		if x, ok := flo.Parse(s); !ok || !bitsAre(x, formBits(u)) {
			t.Errorf("Parse(%q) = %v, %v", s, x, ok)
		}
	}
}

// P1.1: texts that are no number's Text.
func TestParseRefuses(t *testing.T) {
	for _, s := range []string{
		"", " ", "-", "+", ".", "e", "x", "-0", "+0", "00", "0.0", "0e0", "01", "1.", "1.0", ".5", "0.50", "+1", " 1", "1 ", "1\n", "1\x00",
		"1e5", "1E+21", "1e21", "1e+021", "10e+20", "100000000000000000000000", "1e999", "-1e999", "1e-999", "5e-325", "4.9e-324", "3e-324",
		"nan", "NAN", "+NaN", "-NaN", "Inf", "inf", "+inf", "-inf", "+infinity", "Infinity", "-Infinity",
		"0x1p0", "0X1P+00", "1_000", "0x_1p0", "0.1000000000000000055511151231257827", "1.7976931348623158e+308", "1,5", "1.5f", "١", "\xff",
		strings.Repeat("1", 5000), "0." + strings.Repeat("0", 5000), strings.Repeat("9", 5000) + "e-5000",
	} {
		if x, ok := flo.Parse(s); ok || !bitsAre(x, 0) {
			t.Errorf("Parse(%q) = %v, %v", s, x, ok)
		}
	}
}

// P1.1
func TestSort(t *testing.T) {
	nan, inf, zero := math.NaN(), math.Inf(1), at(sign)
	for _, c := range []struct {
		in   []float64
		want []uint64
	}{
		{nil, nil},
		{[]float64{}, nil},
		{[]float64{zero}, []uint64{0}},
		{[]float64{1, zero, 0, nan}, []uint64{formNaN, 0, oneBits}},
		{[]float64{1, 1, 1}, []uint64{oneBits}},
		{[]float64{at(0xFFFFFFFFFFFFFFFF), at(0x7FF0000000000001), nan}, []uint64{formNaN}},
		{[]float64{inf, -inf, at(0xFFF8000000000000), inf}, []uint64{formNaN, sign | infBits, infBits}},
		{[]float64{at(1), zero, at(sign | 1), at(1)}, []uint64{sign | 1, 0, 1}},
	} {
		if got := flo.Sort(c.in); !haveBits(got, c.want) {
			t.Errorf("Sort(%v) = %v", c.in, got)
		}
	}
}

func haveBits(xs []float64, us []uint64) bool {
	return slices.EqualFunc(xs, us, bitsAre)
}

// P1.1: all forms of a long list, each once, whatever the order and however often they come.
func TestSortOfMany(t *testing.T) {
	var xs []float64
	codes := map[uint64]bool{}
	for _, u := range append(many(), many()...) {
		xs = append(xs, at(u))
		codes[codeOf(u)] = true
	}
	got := flo.Sort(xs)
	if len(got) != len(codes) {
		t.Fatalf("Sort has %d of %d", len(got), len(codes))
	}
	for i, x := range got {
		u := math.Float64bits(x)
		if u != formBits(u) || !codes[codeOf(u)] || i > 0 && codeOf(math.Float64bits(got[i-1])) >= codeOf(u) {
			t.Fatalf("Sort has %x at %d", u, i)
		}
	}
	slices.Reverse(xs)
	if again := flo.Sort(xs); !slices.EqualFunc(got, again, func(a, b float64) bool { return bitsAre(a, math.Float64bits(b)) }) {
		t.Error("Sort hangs on the order")
	}
}

// P1.4
func TestArgumentsStay(t *testing.T) {
	bits := []uint64{oneBits, sign, 0xFFF8000000000000, 0, oneBits, sign | infBits, 0x7FF0000000000001, sign, 3}
	back := make([]float64, len(bits))
	for i, u := range bits {
		back[i] = at(u)
	}
	for n := range len(bits) + 1 {
		flo.Sort(back[:n])
		flo.Least(back[:n]...)
		flo.Most(back[:n]...)
		if !haveBits(back, bits) {
			t.Fatalf("with %d of them the argument is %v", n, back)
		}
	}
}

// P1.4
func TestAnswersAreNewMemory(t *testing.T) {
	in := []float64{1, 2, 3, 4}
	for n := range len(in) + 1 {
		got := flo.Sort(in[:n])
		again := flo.Sort(in[:n])
		whole := got[:cap(got)]
		for i := range whole {
			whole[i] = -7
		}
		if !slices.Equal(in, []float64{1, 2, 3, 4}) || !slices.Equal(again, in[:n]) {
			t.Fatalf("the answer to %d shares memory", n)
		}
		in[0] = 9
		if !slices.Equal(again, []float64{1, 2, 3, 4}[:n]) {
			t.Fatalf("the answer to %d is the argument", n)
		}
		in[0] = 1
	}
}
