package sub_test

import (
	"bytes"
	"encoding/binary"
	"math"
	"math/rand/v2"
	"slices"
	"testing"

	"quillet/api"
	"quillet/sub"
)

// putNum says a number's bytes: the library's varint is the document's number.
func putNum(b []byte, ns ...int64) []byte {
	for _, n := range ns {
		b = binary.AppendVarint(b, n)
	}
	return b
}

// putKey says a key's bytes, by layer 1's words on a key's code.
func putKey(b []byte, xs ...float64) []byte {
	for _, x := range xs {
		u := math.Float64bits(x)
		switch {
		case x != x:
			u = 0
		case u>>63 == 0:
			u |= 1 << 63
		default:
			u = ^u
		}
		b = binary.BigEndian.AppendUint64(b, u)
	}
	return b
}

// sayBytes says a submission's bytes, be it right or not.
func sayBytes(s api.Sub) []byte {
	b := putNum(nil, s.Session, s.Seq, s.Snap, int64(len(s.Reads)))
	b = putKey(b, s.Reads...)
	b = putNum(b, int64(len(s.Spans)))
	for _, x := range s.Spans {
		b = putKey(b, x.Lo, x.Hi)
	}
	b = putNum(b, int64(len(s.Writes)))
	return putKey(b, s.Writes...)
}

func full() api.Sub {
	return with(numbers(most, most, most), reads(append(rising(15), inf)...), spans(apart(8)...), writes(append([]float64{-inf}, rising(15)...)...))
}

// P4.1, P4.2
func TestEncodeCases(t *testing.T) {
	small := api.Sub{Session: 1, Seq: 64, Snap: 0, Reads: []float64{0}, Spans: []api.Span{shut(-inf, 1)}, Writes: []float64{-2}}
	want := []byte{2, 128, 1, 0,
		2, 0x80, 0, 0, 0, 0, 0, 0, 0,
		2, 0x00, 0x0F, 0xFF, 0xFF, 0xFF, 0xFF, 0xFF, 0xFF, 0xBF, 0xF0, 0, 0, 0, 0, 0, 0,
		2, 0x3F, 0xFF, 0xFF, 0xFF, 0xFF, 0xFF, 0xFF, 0xFF}
	if b, e := sub.Encode(small); e != api.OK || !bytes.Equal(b, want) {
		t.Errorf("%v, %d", b, e)
	}
	if s, e := sub.Decode(want); e != api.OK || !alike(s, small) {
		t.Errorf("%v, %d", s, e)
	}
	least := api.Sub{Session: 1, Seq: 1}
	if b, e := sub.Encode(least); e != api.OK || !bytes.Equal(b, []byte{2, 2, 0, 0, 0, 0}) {
		t.Errorf("%v, %d", b, e)
	}
	if b, e := sub.Encode(full()); e != api.OK || !bytes.Equal(b, sayBytes(full())) || len(b) != 3*6+3+48*8 {
		t.Errorf("%v, %d", b, e)
	}
	for _, s := range []api.Sub{with(seq(0)), with(reads(rising(17)...)), with(writes(nan)), with(spans(shut(2, 1))), with(reads(2, 1))} {
		if b, e := sub.Encode(s); e != sayCheck(s) || len(b) != 0 {
			t.Errorf("%v: %v, %d", s, b, e)
		}
	}
}

// P4.1, P4.2: the bytes of all submissions of the lists are decoded as them, if they are right, and as nothing else.
func TestDecodeAll(t *testing.T) {
	every(func(s api.Sub) {
		said := sayBytes(s)
		closed := !slices.ContainsFunc(s.Spans, func(x api.Span) bool { return x.LoOpen || x.HiOpen })
		got, e := sub.Decode(said)
		switch {
		case sayCheck(s) == api.OK:
			if b, f := sub.Encode(s); f != api.OK || e != api.OK || !bytes.Equal(b, said) || !alike(got, s) {
				t.Fatalf("%v: %v, %d, decoded as %v, %d", s, b, f, got, e)
			}
		case closed && (e != api.ErrForm || !isZero(got)):
			t.Fatalf("%v isn't right, but is decoded as %v, %d", s, got, e)
		}
	})
}

// P4.1
func TestDecodeWrongBytes(t *testing.T) {
	head := putNum(nil, 1, 2, 3)
	none := slices.Concat(head, putNum(nil, 0, 0, 0))
	if _, e := sub.Decode(none); e != api.OK {
		t.Fatalf("%v: %d", none, e)
	}
	key, span := putKey(nil, 1), putKey(nil, 1, 2)
	for name, b := range map[string][]byte{
		"nothing":                  nil,
		"a byte behind":            append(slices.Clone(none), 0),
		"a submission behind":      slices.Concat(none, none),
		"reads: -1":                slices.Concat(head, putNum(nil, -1, 0, 0)),
		"spans: -1":                slices.Concat(head, putNum(nil, 0, -1, 0)),
		"writes: -1":               slices.Concat(head, putNum(nil, 0, 0, -1)),
		"reads: too many":          slices.Concat(head, putNum(nil, 17), putKey(nil, rising(17)...), putNum(nil, 0, 0)),
		"spans: too many":          sayBytes(with(spans(apart(9)...))),
		"writes: too many":         sayBytes(with(writes(rising(17)...))),
		"reads: far too many":      slices.Concat(head, putNum(nil, math.MaxInt64, 0, 0)),
		"spans: far too many":      slices.Concat(head, putNum(nil, 0, math.MaxInt64, 0)),
		"writes: far too many":     slices.Concat(head, putNum(nil, 0, 0, 1<<32)),
		"reads: more than there":   slices.Concat(head, putNum(nil, 2), key),
		"reads: fewer than there":  slices.Concat(head, putNum(nil, 0), key, putNum(nil, 0, 0)),
		"spans: half a one":        slices.Concat(head, putNum(nil, 0, 1), key, putNum(nil, 0)),
		"spans: more than there":   slices.Concat(head, putNum(nil, 0, 2), span, putNum(nil, 0)),
		"writes: more than there":  slices.Concat(head, putNum(nil, 0, 0, 2), key),
		"writes: fewer than there": slices.Concat(head, putNum(nil, 0, 0, 1), key, key),
		"a number of another form": slices.Concat([]byte{130, 0}, putNum(nil, 2, 3, 0, 0, 0)),
		"a count of another form":  slices.Concat(head, []byte{128, 0}, putNum(nil, 0, 0)),
		"-0's code, as a read":     slices.Concat(head, putNum(nil, 1), putKey(nil, zero), putNum(nil, 0, 0)),
		"no number's code":         slices.Concat(head, putNum(nil, 1), bytes.Repeat([]byte{255}, 8), putNum(nil, 0, 0)),
		"NaN's code, as a write":   slices.Concat(head, putNum(nil, 0, 0, 1), make([]byte, 8)),
		"NaN's code, in a span":    slices.Concat(head, putNum(nil, 0, 1), make([]byte, 8), key, putNum(nil, 0)),
		"a session of 0":           sayBytes(with(session(0))),
		"a session beyond":         sayBytes(with(session(most + 1))),
		"a number of 0":            sayBytes(with(seq(0))),
		"a number beyond":          sayBytes(with(seq(most + 1))),
		"a snapshot of -1":         sayBytes(with(snap(-1))),
		"a snapshot beyond":        sayBytes(with(snap(most + 1))),
		"reads that don't rise":    sayBytes(with(reads(2, 1))),
		"a read twice":             sayBytes(with(reads(2, 2))),
		"writes that don't rise":   sayBytes(with(writes(2, 1))),
		"an empty span":            sayBytes(with(spans(shut(2, 1)))),
		"spans that touch":         sayBytes(with(spans(shut(1, 2), shut(up(2), 3)))),
		"spans that overlap":       sayBytes(with(spans(shut(1, 2), shut(2, 3)))),
		"spans the wrong way":      sayBytes(with(spans(shut(3, 4), shut(1, 2)))),
	} {
		if s, e := sub.Decode(b); e != api.ErrForm || !isZero(s) {
			t.Errorf("%s: %v, %d", name, s, e)
		}
	}
}

// P4.1, P4.2: bytes that are cut short are none's; those with another byte are none's, or those of what they are decoded as.
func TestDecodeTurnedBytes(t *testing.T) {
	for _, s := range []api.Sub{good(), full(), {Session: 1, Seq: 1}} {
		b := sayBytes(s)
		for i := range b {
			if got, e := sub.Decode(b[:i]); e != api.ErrForm || !isZero(got) {
				t.Errorf("%d bytes: %v, %d", i, got, e)
			}
			for c := range 256 {
				turned := slices.Clone(b)
				turned[i] = byte(c)
				fits(t, turned)
			}
		}
	}
}

// fits holds Decode's answer to P4.2.
func fits(t *testing.T, b []byte) bool {
	t.Helper()
	s, e := sub.Decode(b)
	if e != api.OK {
		if e != api.ErrForm || !isZero(s) {
			t.Fatalf("%v: %v, %d", b, s, e)
		}
		return false
	}
	if back, f := sub.Encode(s); f != api.OK || !bytes.Equal(back, b) || sayCheck(s) != api.OK {
		t.Fatalf("%v is decoded as %v, whose bytes are %v, %d", b, s, back, f)
	}
	return true
}

// P4.2: bytes of all sorts, most of them nearly right.
func TestDecodeManyBytes(t *testing.T) {
	rnd := rand.New(rand.NewPCG(4, 2))
	pieces := [][]byte{{0}, {2}, {4}, {1}, {128, 1}, {130, 0}, {255}, putKey(nil, 1), putKey(nil, 2), putKey(nil, -inf), putKey(nil, up(2)), putKey(nil, nan), putKey(nil, zero), putNum(nil, most), putNum(nil, most+1)}
	right := 0
	for range 300000 {
		b := putNum(nil, 1, 1, 0)
		for range rnd.IntN(7) {
			b = append(b, pieces[rnd.IntN(len(pieces))]...)
		}
		if fits(t, b) {
			right++
		}
	}
	if right < 100 {
		t.Errorf("only %d of them were right", right)
	}
}

// P4.1
func TestSame(t *testing.T) {
	some := []api.Sub{good(), full(), {Session: 1, Seq: 1}, with(session(2)), with(seq(3)), with(snap(4)), with(reads()), with(reads(1)), with(reads(-1, up(4))), with(spans()), with(spans(shut(1, 3))),
		with(spans(shut(1, 3), shut(5, up(5)))), with(spans(shut(down(1), 3), shut(5, 5))), with(writes()), with(writes(2)), with(writes(2, 7)), with(reads(2, 6), writes(-1, 4))}
	for i, a := range some {
		for j, b := range some {
			if got := sub.Same(a, b); got != (i == j) {
				t.Errorf("%v and %v: %v", a, b, got)
			}
		}
		if !sub.Same(a, with(func(s *api.Sub) {
			*s = a
			s.Reads, s.Spans, s.Writes = slices.Clone(a.Reads), slices.Clone(a.Spans), slices.Clone(a.Writes)
		})) {
			t.Errorf("%v isn't the same as itself elsewhere", a)
		}
	}
	if !sub.Same(with(reads(), spans(), writes()), with(reads([]float64{}...), spans([]api.Span{}...), writes([]float64{}...))) {
		t.Error("nil and empty lists aren't the same")
	}
	for _, wrong := range []api.Sub{{}, with(session(0)), with(reads(2, 1)), with(reads(rising(17)...)), with(writes(zero)), with(writes(nan)), with(spans(right(1, 2))), with(spans(shut(2, 1)))} {
		if sub.Same(wrong, wrong) || sub.Same(wrong, good()) || sub.Same(good(), wrong) {
			t.Errorf("%v isn't right, but the same", wrong)
		}
	}
}

// roomy is a submission whose lists have memory behind their lengths; what is there is told beside it.
func roomy(s api.Sub) (api.Sub, func() api.Sub) {
	s.Reads = append(slices.Clone(s.Reads), 77, 78)
	s.Spans = append(slices.Clone(s.Spans), shut(77, 78), open(1, 2))
	s.Writes = append(slices.Clone(s.Writes), 79, 80)
	whole := s
	s.Reads, s.Spans, s.Writes = s.Reads[:len(s.Reads)-2], s.Spans[:len(s.Spans)-2], s.Writes[:len(s.Writes)-2]
	return s, func() api.Sub {
		c := whole
		c.Reads, c.Spans, c.Writes = slices.Clone(c.Reads), slices.Clone(c.Spans), slices.Clone(c.Writes)
		return c
	}
}

// fill writes over all of a list's memory, its spare room too.
func fill[T any](xs []T, x T) {
	xs = xs[:cap(xs)]
	for i := range xs {
		xs[i] = x
	}
}

// P4.4
func TestArgumentsStay(t *testing.T) {
	for _, s := range []api.Sub{good(), full(), with(reads(3, zero, 3), spans(right(4, 5), shut(9, 8), shut(1, 4)), writes(5, 5, 1)), with(reads(2, nan)), with(spans(shut(2, nan), shut(1, 1)))} {
		a, whole := roomy(s)
		before := whole()
		sub.Check(a)
		sub.Canon(a)
		sub.Encode(a)
		sub.Reads(a, 3)
		sub.Writes(a, 3)
		sub.Meets(a, a)
		sub.Same(a, a)
		if !alike(whole(), before) {
			t.Errorf("%v has become %v", before, whole())
		}
	}
	b := append(sayBytes(good()), 99, 98)
	before := slices.Clone(b)
	if _, e := sub.Decode(b[:len(b)-2]); e != api.OK || !bytes.Equal(b, before) {
		t.Errorf("%v has become %v, %d", before, b, e)
	}
}

// P4.4
func TestAnswersAreNewMemory(t *testing.T) {
	for _, s := range []api.Sub{good(), full(), with(reads(3, zero, 3), spans(right(4, 5), shut(1, 4)), writes(5, 5, 1)), with(reads(1), writes(1), spans()), with(reads(), writes(), spans(shut(1, 2)))} {
		a, whole := roomy(s)
		before := whole()
		c, e := sub.Canon(a)
		b, _ := sub.Encode(c)
		said := slices.Clone(b)
		d, f := sub.Decode(b)
		if e != api.OK || f != api.OK {
			t.Fatalf("%v: %d, %d", s, e, f)
		}
		fill(b, 0xEE)
		for _, x := range []api.Sub{c, d} {
			lone(t, x)
		}
		if !alike(whole(), before) {
			t.Errorf("%v: Canon's answer shares with its argument", s)
		}
		c, _ = sub.Canon(a)
		fill(a.Reads, 55)
		fill(a.Spans, shut(55, 55))
		fill(a.Writes, 55)
		if got, _ := sub.Encode(c); !bytes.Equal(got, said) {
			t.Errorf("%v: Canon has kept its argument", s)
		}
	}
}

// lone writes over one list of an answer behind the other, and looks whether the others stay.
func lone(t *testing.T, s api.Sub) {
	t.Helper()
	r, ss, w := slices.Clone(s.Reads), slices.Clone(s.Spans), slices.Clone(s.Writes)
	fill(s.Reads, 66)
	if !slices.Equal(s.Spans, ss) || !slices.Equal(s.Writes, w) {
		t.Error("Reads share with Spans or Writes")
	}
	copy(s.Reads, r)
	fill(s.Spans, shut(66, 66))
	if !slices.Equal(s.Reads, r) || !slices.Equal(s.Writes, w) {
		t.Error("Spans share with Reads or Writes")
	}
	copy(s.Spans, ss)
	fill(s.Writes, 66)
	if !slices.Equal(s.Reads, r) || !slices.Equal(s.Spans, ss) {
		t.Error("Writes share with Reads or Spans")
	}
}
