package cert_test

import (
	"bytes"
	"math"
	"slices"
	"testing"

	"quillet/api"
	"quillet/cert"
)

// both are a Cert and what the document says of it, and all that it was given that has committed.
type both struct {
	conf cert.Conf
	cert *cert.Cert
	said *said
	done []api.Done
}

func newBoth(conf cert.Conf) *both {
	return &both{conf: conf, cert: cert.New(conf), said: saidNew(conf)}
}

// loadBoth is of bytes that must be right.
func loadBoth(t *testing.T, conf cert.Conf, m image) *both {
	t.Helper()
	c, e := cert.Load(conf, m.bytes())
	s := saidLoad(conf, m.bytes())
	if e != api.OK || c == nil || s == nil {
		t.Fatalf("Load(%v, %v) = %d; said: %v", conf, m, e, s != nil)
	}
	b := &both{conf: conf, cert: c, said: s}
	b.told(t, "Load")
	return b
}

// told holds all that a Cert tells against what it should.
func (b *both) told(t *testing.T, what any) {
	t.Helper()
	if n := b.cert.Count(); n != b.said.count {
		t.Fatalf("%v: %d have committed, not %d", what, n, b.said.count)
	}
	if n := b.cert.Horizon(); n != b.said.horizon {
		t.Fatalf("%v: the horizon is %d, not %d", what, n, b.said.horizon)
	}
	if got, want := b.cert.Recent(), b.said.dones(); !slices.EqualFunc(got, want, sameDone) {
		t.Fatalf("%v: the recent ones are %v, not %v", what, got, want)
	}
	if got, want := b.cert.Bytes(), b.said.image().bytes(); !bytes.Equal(got, want) {
		t.Fatalf("%v: the bytes are %v, not %v", what, got, want)
	}
}

func sameDone(a, b api.Done) bool {
	return a.Num == b.Num && a.Sub.Session == b.Sub.Session && a.Sub.Seq == b.Sub.Seq && a.Sub.Snap == b.Sub.Snap &&
		slices.EqualFunc(a.Sub.Reads, b.Sub.Reads, sameKey) && slices.EqualFunc(a.Sub.Writes, b.Sub.Writes, sameKey) &&
		slices.EqualFunc(a.Sub.Spans, b.Sub.Spans, sameSpan)
}

// sameKey goes by the bits: -0 equals 0, but isn't a form.
func sameKey(a, b float64) bool { return math.Float64bits(a) == math.Float64bits(b) }

func sameSpan(a, b api.Span) bool {
	return sameKey(a.Lo, b.Lo) && sameKey(a.Hi, b.Hi) && a.LoOpen == b.LoOpen && a.HiOpen == b.HiOpen
}

// do lets both decide a submission, and holds them against each other; what is refused has changed nothing.
func (b *both) do(t *testing.T, s api.Sub) api.Verdict {
	t.Helper()
	was := b.cert.Bytes()
	got, want := b.cert.Decide(s), b.said.decide(s)
	if got != want {
		t.Fatalf("%v: Decide(%v) = %v, not %v, behind %v", b.conf, s, got, want, b.done)
	}
	if got.Code != api.OK && (got.Num != 0 || !bytes.Equal(b.cert.Bytes(), was)) {
		t.Fatalf("%v: Decide(%v) = %v has changed something", b.conf, s, got)
	}
	if got.Code == api.OK {
		b.done = append(b.done, api.Done{Num: got.Num, Sub: cloned(s)})
	}
	b.told(t, s)
	return got
}

// blindly lets both decide a submission, and asks nothing.
func (b *both) blindly(s api.Sub) {
	if v := b.cert.Decide(s); v.Code == api.OK {
		b.done = append(b.done, api.Done{Num: v.Num, Sub: cloned(s)})
	}
	b.said.decide(s)
}

// must decides a submission, which the verdict must be of: its number, or below 0 an error's.
func (b *both) must(t *testing.T, s api.Sub, v int64) {
	t.Helper()
	if got := b.do(t, s); got != verdict(v) {
		t.Fatalf("%v: Decide(%v) = %v, not %v, behind %v", b.conf, s, got, verdict(v), b.done)
	}
}

// commits decides submissions, which all commit.
func (b *both) commits(t *testing.T, ss ...api.Sub) *both {
	t.Helper()
	for _, s := range ss {
		b.must(t, s, b.cert.Count()+1)
	}
	return b
}

// would tells what the verdict would be: a Cert of the same bytes decides.
func (b *both) would(t *testing.T, s api.Sub, v int64) {
	t.Helper()
	loaded := b.loaded(t)
	loaded.done = b.done
	loaded.must(t, s, v)
}

func (b *both) loaded(t *testing.T) *both {
	t.Helper()
	return loadBoth(t, b.conf, b.said.image())
}

func verdict(v int64) api.Verdict {
	if v < 0 {
		return api.Verdict{Code: api.Errno(-v)}
	}
	return api.Verdict{Num: v}
}

// What a verdict is, as must takes it.
const (
	many    = -int64(api.ErrMany)
	misnum  = -int64(api.ErrName)
	miskey  = -int64(api.ErrKey)
	misspan = -int64(api.ErrSpan)
	unorder = -int64(api.ErrOrder)
	young   = -int64(api.ErrYoung)
	old     = -int64(api.ErrOld)
	clash   = -int64(api.ErrWrite)
	danger  = -int64(api.ErrDanger)
)

// upTo are n keys from a first one on.
func upTo(first float64, n int) []float64 {
	var out []float64
	for i := range n {
		out = append(out, first+float64(i))
	}
	return out
}
