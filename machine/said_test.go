package machine_test

import (
	"bytes"
	"encoding/binary"
	"maps"
	"slices"
	"testing"

	"quillet/api"
	"quillet/cert"
	"quillet/machine"
	"quillet/sess"
	"quillet/sub"
)

const top = int64(1) << 40

type answer = machine.Answer

// said is what a Machine does by the document's words, with a Cert of layer 11; of the sessions it forgets nothing.
type said struct {
	index   int64
	cert    *cert.Cert
	put     map[[2]int64]api.Verdict // by session and seq
	highest map[int64]int64
}

func saidNew(conf cert.Conf) *said {
	return &said{0, cert.New(conf), map[[2]int64]api.Verdict{}, map[int64]int64{}}
}

func (s *said) look(session, seq int64) (api.Verdict, api.Errno) {
	v, was := s.put[[2]int64{session, seq}]
	high, there := s.highest[session]
	switch {
	case was && seq > high-8:
		return v, api.ErrTwice
	case session < 1 || session > top || seq < 1 || seq > top:
		return api.Verdict{}, api.ErrName
	case !there && len(s.highest) == 16:
		return api.Verdict{}, api.ErrFull
	case there && seq <= high-8:
		return api.Verdict{}, api.ErrGone
	}
	return api.Verdict{}, api.OK
}

func (s *said) apply(e api.Entry) (answer, api.Errno) {
	if e.Index != s.index+1 {
		return answer{}, api.ErrGap
	}
	s.index++
	x, code := sub.Decode(e.Data)
	if e.Kind != 1 || code != api.OK {
		return answer{}, api.OK
	}
	v, code := s.look(x.Session, x.Seq)
	if code == api.ErrTwice {
		return answer{Session: x.Session, Seq: x.Seq, Verdict: v}, api.OK
	}
	if code != api.OK {
		return answer{Session: x.Session, Seq: x.Seq, Verdict: api.Verdict{Code: code}}, api.OK
	}
	v = s.cert.Decide(x)
	s.put[[2]int64{x.Session, x.Seq}] = v
	s.highest[x.Session] = max(s.highest[x.Session], x.Seq)
	return answer{Session: x.Session, Seq: x.Seq, Verdict: v, Fresh: true}, api.OK
}

func nums(ns ...int64) []byte {
	var b []byte
	for _, n := range ns {
		b = binary.AppendVarint(b, n)
	}
	return b
}

// asked is layer 13's bytes, by its words.
func (s *said) asked() []byte {
	b := nums(int64(len(s.highest)))
	for _, id := range slices.Sorted(maps.Keys(s.highest)) {
		var kept []byte
		n := int64(0)
		for seq := s.highest[id] - 7; seq <= s.highest[id]; seq++ {
			if v, was := s.put[[2]int64{id, seq}]; was {
				kept = append(kept, nums(seq, int64(v.Code), v.Num)...)
				n++
			}
		}
		b = append(append(b, nums(id, s.highest[id], n)...), kept...)
	}
	return b
}

// part is what the document says that each half of the bytes is made of; it may be wrong.
type part struct {
	many   int64
	pieces [][]byte
}

// halves are both.
type halves [2]part

// whole is bytes in the pieces that are right.
func whole(b []byte) part {
	var p part
	for len(b) > 4096 {
		p.pieces, b = append(p.pieces, b[:4096]), b[4096:]
	}
	if len(b) > 0 {
		p.pieces = append(p.pieces, b)
	}
	p.many = int64(len(p.pieces))
	return p
}

// pieces are as many bytes each as is said, and told as that many.
func pieces(many int64, b []byte, sizes ...int) part {
	p := part{many: many}
	for _, n := range sizes {
		p.pieces, b = append(p.pieces, b[:n]), b[n:]
	}
	if len(b) > 0 {
		panic("the sizes don't fit")
	}
	return p
}

func (h halves) bytes() []byte {
	var b []byte
	for _, p := range h {
		b = append(b, nums(p.many)...)
		for _, x := range p.pieces {
			b = append(append(b, nums(int64(len(x)))...), x...)
		}
	}
	return b
}

func (s *said) bytes() []byte { return halves{whole(s.cert.Bytes()), whole(s.asked())}.bytes() }

// parse takes bytes for two lists of pieces, which are joined; false: they aren't any.
func parse(b []byte) (out [2][]byte, ok bool) {
	num := func() int64 {
		n, size := binary.Varint(b)
		if size <= 0 || size != len(nums(n)) {
			return -1
		}
		b = b[size:]
		return n
	}
	for i := range out {
		many := num()
		if many < 0 {
			return out, false
		}
		for k := int64(1); k <= many; k++ {
			n := num()
			if n < 1 || n > 4096 || n > int64(len(b)) || k < many && n != 4096 {
				return out, false
			}
			out[i], b = append(out[i], b[:n]...), b[n:]
		}
	}
	return out, len(b) == 0
}

// saidLoad is the said of bytes, by the document's words and the layers below; nil: they aren't that.
func saidLoad(conf cert.Conf, index int64, b []byte) *said {
	halves, ok := parse(b)
	if !ok {
		return nil
	}
	s := saidNew(conf)
	s.index = index
	var e api.Errno
	if s.cert, e = cert.Load(conf, halves[0]); e != api.OK {
		return nil
	}
	table, e := sess.Load(halves[1])
	if e != api.OK {
		return nil
	}
	for _, id := range table.Sessions() {
		s.highest[id] = table.Highest(id)
		for _, x := range table.Kept(id) {
			s.put[[2]int64{id, x.Seq}] = x.Verdict
		}
	}
	return s
}

// both are a Machine and what the document says of it, and what has committed.
type both struct {
	conf cert.Conf
	m    *machine.Machine
	said *said
	done []api.Done
}

func newBoth(conf cert.Conf) *both {
	return &both{conf: conf, m: machine.New(conf), said: saidNew(conf)}
}

// loads asks whether bytes are loaded, if they should be, and tells the Machine, or nil.
func loads(t *testing.T, name any, conf cert.Conf, index int64, b []byte) *both {
	t.Helper()
	was := slices.Clone(b)
	m, e := machine.Load(conf, index, b)
	s := saidLoad(conf, index, b)
	if !bytes.Equal(b, was) {
		t.Fatalf("%v: Load has changed the bytes", name)
	}
	if s == nil {
		if m != nil || e != api.ErrForm {
			t.Fatalf("%v: Load(%v, %d, %v) = %v, %d", name, conf, index, b, m, e)
		}
		return nil
	}
	if m == nil || e != api.OK {
		t.Fatalf("%v: Load(%v, %d, %v) = %d", name, conf, index, b, e)
	}
	if !bytes.Equal(m.Bytes(), b) {
		t.Fatalf("%v: %v are loaded, and told as %v", name, b, m.Bytes())
	}
	x := &both{conf: conf, m: m, said: s}
	x.told(t, name)
	return x
}

// loaded is of the same bytes and the same index.
func (b *both) loaded(t *testing.T) *both {
	t.Helper()
	x := loads(t, "loaded", b.conf, b.said.index, b.said.bytes())
	if x == nil {
		t.Fatalf("%v: %v isn't loaded", b.conf, b.said.bytes())
	}
	x.done = slices.Clone(b.done)
	return x
}

// told holds all that a Machine tells by itself against what it should.
func (b *both) told(t *testing.T, what any) {
	t.Helper()
	for _, x := range []struct {
		name      string
		got, want int64
	}{
		{"Index", b.m.Index(), b.said.index},
		{"Count", b.m.Count(), b.said.cert.Count()},
		{"Horizon", b.m.Horizon(), b.said.cert.Horizon()},
	} {
		if x.got != x.want {
			t.Fatalf("%v: %v: %s is %d, not %d", b.conf, what, x.name, x.got, x.want)
		}
	}
	if got, want := b.m.Bytes(), b.said.bytes(); !bytes.Equal(got, want) {
		t.Fatalf("%v: %v: the bytes are %v, not %v", b.conf, what, got, want)
	}
}

// around looks at all numbers near the windows, and beyond.
func (b *both) around(t *testing.T) {
	t.Helper()
	ids := slices.Sorted(maps.Keys(b.said.highest))
	for _, id := range append(ids, -1<<63, -1, 0, 1, 50, top, top+1, 1<<63-1) {
		high := b.said.highest[id]
		for _, seq := range []int64{-1 << 63, -1, 0, 1, 2, 8, 9, top - 1, top, top + 1, 1<<63 - 1} {
			b.look(t, id, seq)
		}
		for seq := high - 10; seq <= high+10; seq++ {
			b.look(t, id, seq)
		}
	}
}

func (b *both) look(t *testing.T, session, seq int64) {
	t.Helper()
	v, e := b.m.Look(session, seq)
	if want, code := b.said.look(session, seq); v != want || e != code {
		t.Fatalf("%v: Look(%d, %d) = %v, %d, not %v, %d", b.conf, session, seq, v, e, want, code)
	}
}

// apply lets both apply an entry, and holds them against each other.
func (b *both) apply(t *testing.T, e api.Entry) (answer, api.Errno) {
	t.Helper()
	was := b.m.Bytes()
	a, code := b.m.Apply(e)
	want, should := b.said.apply(e)
	if a != want || code != should {
		t.Fatalf("%v: Apply(%v) = %v, %d, not %v, %d", b.conf, e, a, code, want, should)
	}
	if code != api.OK && a != (answer{}) {
		t.Fatalf("%v: Apply(%v) = %v, %d", b.conf, e, a, code)
	}
	if !a.Fresh && !bytes.Equal(b.m.Bytes(), was) {
		t.Fatalf("%v: Apply(%v) = %v, %d has changed something", b.conf, e, a, code)
	}
	if a.Fresh && a.Verdict.Code == api.OK {
		s, _ := sub.Decode(e.Data)
		b.done = append(b.done, api.Done{Num: a.Verdict.Num, Sub: s})
	}
	b.told(t, e)
	return a, code
}

// next is an entry with the index behind the last.
func (b *both) next(kind int, data []byte) api.Entry {
	return api.Entry{Index: b.said.index + 1, Term: 3, Kind: kind, Data: data}
}

// takes applies an entry that comes next.
func (b *both) takes(t *testing.T, kind int, data []byte) answer {
	t.Helper()
	a, e := b.apply(t, b.next(kind, data))
	if e != api.OK {
		t.Fatalf("%v: the next entry is answered %d", b.conf, e)
	}
	return a
}

// fresh applies a submission that is decided now: its number, or below 0 an error's.
func (b *both) fresh(t *testing.T, s api.Sub, v int64) *both {
	t.Helper()
	if a := b.takes(t, api.Submit, encoded(t, s)); a != (answer{s.Session, s.Seq, verdict(v), true}) {
		t.Fatalf("%v: %v is answered %v, not %v", b.conf, s, a, verdict(v))
	}
	return b
}

// stale applies a submission that isn't decided now.
func (b *both) stale(t *testing.T, s api.Sub, v int64) *both {
	t.Helper()
	if a := b.takes(t, api.Submit, encoded(t, s)); a != (answer{s.Session, s.Seq, verdict(v), false}) {
		t.Fatalf("%v: %v is answered %v, not %v", b.conf, s, a, verdict(v))
	}
	return b
}

func verdict(v int64) api.Verdict {
	if v < 0 {
		return api.Verdict{Code: api.Errno(-v)}
	}
	return api.Verdict{Num: v}
}

// What a verdict is, as fresh and stale take it.
const (
	many   = -int64(api.ErrMany)
	old    = -int64(api.ErrOld)
	clash  = -int64(api.ErrWrite)
	danger = -int64(api.ErrDanger)
	young  = -int64(api.ErrYoung)
	gone   = -int64(api.ErrGone)
	full   = -int64(api.ErrFull)
)

// of is a submission of a session's number, on a snapshot, that reads and writes a key each (0: none).
func of(session, seq, snap int64, read, write float64) api.Sub {
	s := api.Sub{Session: session, Seq: seq, Snap: snap}
	if read != 0 {
		s.Reads = []float64{read}
	}
	if write != 0 {
		s.Writes = []float64{write}
	}
	return s
}

func encoded(t *testing.T, s api.Sub) []byte {
	t.Helper()
	b, e := sub.Encode(s)
	if e != api.OK {
		t.Fatalf("%v isn't right: %d", s, e)
	}
	return b
}
