package sess_test

import (
	"bytes"
	"encoding/binary"
	"maps"
	"slices"
	"testing"

	"quillet/api"
	"quillet/sess"
)

const top = int64(1) << 40

// said is what a Table does by the document's words: it forgets nothing that was put, and looks what is in the window.
type said struct {
	put     map[[2]int64]api.Verdict // by session and seq
	highest map[int64]int64
}

func saidNew() *said { return &said{map[[2]int64]api.Verdict{}, map[int64]int64{}} }

// inWindow are the numbers from the highest less 8, not counted, up to the highest.
func (s *said) inWindow(session, seq int64) bool {
	high := s.highest[session]
	return high-8 < seq && seq <= high
}

func (s *said) look(session, seq int64) (api.Verdict, api.Errno) {
	v, was := s.put[[2]int64{session, seq}]
	high, there := s.highest[session]
	switch {
	case was && s.inWindow(session, seq):
		return v, api.ErrTwice
	case session < 1 || session > top || seq < 1 || seq > top:
		return api.Verdict{}, api.ErrName
	case !there && len(s.highest) == 16:
		return api.Verdict{}, api.ErrFull
	case there && seq <= high-8:
		return api.Verdict{}, api.ErrGone
	}
	return api.Verdict{}, api.OK
}

func (s *said) putIn(session, seq int64, v api.Verdict) api.Errno {
	if _, e := s.look(session, seq); e != api.OK {
		return e
	}
	if v.Code < 0 || v.Code > 999 || v.Num < 0 || v.Num > top {
		return api.ErrArg
	}
	s.put[[2]int64{session, seq}] = v
	s.highest[session] = max(s.highest[session], seq)
	return api.OK
}

func (s *said) kept(session int64) []sess.Item {
	var out []sess.Item
	for seq := s.highest[session] - 7; seq <= s.highest[session]; seq++ {
		if v, was := s.put[[2]int64{session, seq}]; was {
			out = append(out, sess.Item{Seq: seq, Verdict: v})
		}
	}
	return out
}

func (s *said) sessions() []int64 { return slices.Sorted(maps.Keys(s.highest)) }

// image is what the document says that bytes are made of; it may be wrong.
type image []session

type session struct {
	id, highest int64
	kept        []item
}

type item struct{ seq, code, num int64 }

func (s *said) image() image {
	var m image
	for _, id := range s.sessions() {
		x := session{id: id, highest: s.highest[id]}
		for _, y := range s.kept(id) {
			x.kept = append(x.kept, item{y.Seq, int64(y.Verdict.Code), y.Verdict.Num})
		}
		m = append(m, x)
	}
	return m
}

func nums(ns ...int64) []byte {
	var b []byte
	for _, n := range ns {
		b = binary.AppendVarint(b, n)
	}
	return b
}

func (m image) bytes() []byte {
	b := nums(int64(len(m)))
	for _, x := range m {
		b = append(b, nums(x.id, x.highest, int64(len(x.kept)))...)
		for _, y := range x.kept {
			b = append(b, nums(y.seq, y.code, y.num)...)
		}
	}
	return b
}

// parse takes bytes for numbers, and these for an image; false: they aren't any.
func parse(b []byte) (image, bool) {
	var ns []int64
	for len(b) > 0 {
		n, size := binary.Varint(b)
		if size <= 0 || size != len(nums(n)) {
			return nil, false
		}
		ns, b = append(ns, n), b[size:]
	}
	take := func() int64 {
		if len(ns) == 0 {
			ns = []int64{-1} // no number may be below 0: so this is told below
		}
		n := ns[0]
		ns = ns[1:]
		return n
	}
	m := image{}
	many := take()
	if many < 0 || many > 16 {
		return nil, false
	}
	for range many {
		x := session{id: take(), highest: take()}
		n := take()
		if n < 1 || n > 8 {
			return nil, false
		}
		for range n {
			x.kept = append(x.kept, item{take(), take(), take()})
		}
		m = append(m, x)
	}
	return m, len(ns) == 0
}

// right says whether an image is one that a Table may have come to.
func (m image) right() bool {
	for i, x := range m {
		if x.id < 1 || x.id > top || x.highest < 1 || x.highest > top || i > 0 && x.id <= m[i-1].id {
			return false
		}
		for j, y := range x.kept {
			if y.seq < 1 || y.seq > x.highest || y.seq <= x.highest-8 || j > 0 && y.seq <= x.kept[j-1].seq {
				return false
			}
			if y.code < 0 || y.code > 999 || y.num < 0 || y.num > top {
				return false
			}
		}
		if x.kept[len(x.kept)-1].seq != x.highest {
			return false
		}
	}
	return true
}

// saidLoad is the said of bytes, by the document's words; nil: no Table's bytes are these.
func saidLoad(b []byte) *said {
	m, ok := parse(b)
	if !ok || !m.right() {
		return nil
	}
	s := saidNew()
	for _, x := range m {
		s.highest[x.id] = x.highest
		for _, y := range x.kept {
			s.put[[2]int64{x.id, y.seq}] = api.Verdict{Code: api.Errno(y.code), Num: y.num}
		}
	}
	return s
}

// both are a Table and what the document says of it.
type both struct {
	table *sess.Table
	said  *said
}

func newBoth() *both { return &both{sess.New(), saidNew()} }

// told holds all that a Table tells by itself against what it should.
func (b *both) told(t *testing.T, what any) {
	t.Helper()
	ids := b.said.sessions()
	if got := b.table.Sessions(); !slices.Equal(got, ids) {
		t.Fatalf("%v: the sessions are %v, not %v", what, got, ids)
	}
	for _, id := range append(ids, -1, 0, 1, 2, 99, top, top+1) {
		if got := b.table.Highest(id); got != b.said.highest[id] {
			t.Fatalf("%v: Highest(%d) = %d, not %d", what, id, got, b.said.highest[id])
		}
		if got, want := b.table.Kept(id), b.said.kept(id); !slices.Equal(got, want) {
			t.Fatalf("%v: Kept(%d) = %v, not %v", what, id, got, want)
		}
	}
	if got, want := b.table.Bytes(), b.said.image().bytes(); !bytes.Equal(got, want) {
		t.Fatalf("%v: the bytes are %v, not %v", what, got, want)
	}
}

// look lets both look, and holds them against each other; nothing is changed by it.
func (b *both) look(t *testing.T, session, seq int64) (api.Verdict, api.Errno) {
	t.Helper()
	v, e := b.table.Look(session, seq)
	if want, code := b.said.look(session, seq); v != want || e != code {
		t.Fatalf("Look(%d, %d) = %v, %d, not %v, %d, of %v", session, seq, v, e, want, code, b.said.image())
	}
	return v, e
}

// put lets both put a verdict, and holds them against each other.
func (b *both) put(t *testing.T, session, seq int64, v api.Verdict) api.Errno {
	t.Helper()
	was := b.said.image()
	e := b.table.Put(session, seq, v)
	if want := b.said.putIn(session, seq, v); e != want {
		t.Fatalf("Put(%d, %d, %v) = %d, not %d, of %v", session, seq, v, e, want, was)
	}
	b.told(t, []any{"Put", session, seq, v})
	return e
}

// puts puts verdicts for these numbers of a session, which all may be put.
func (b *both) puts(t *testing.T, session int64, seqs ...int64) *both {
	t.Helper()
	for _, seq := range seqs {
		if e := b.put(t, session, seq, of(session, seq)); e != api.OK {
			t.Fatalf("Put(%d, %d) = %d", session, seq, e)
		}
	}
	return b
}

// of is a verdict that tells whose it is.
func of(session, seq int64) api.Verdict {
	return api.Verdict{Code: api.Errno((session*31 + seq) % 1000), Num: (session*1000 + seq) % top}
}

// must looks, and asks for that answer.
func (b *both) must(t *testing.T, session, seq int64, e api.Errno) {
	t.Helper()
	v, got := b.look(t, session, seq)
	if got != e || (e != api.ErrTwice && v != api.Verdict{}) {
		t.Errorf("Look(%d, %d) = %v, %d, not %d, of %v", session, seq, v, got, e, b.said.image())
	}
}

// around looks at all numbers near the windows, and beyond.
func (b *both) around(t *testing.T) {
	t.Helper()
	for _, id := range append(b.said.sessions(), -1, 0, 1, 50, 99, top, top+1) {
		high := b.said.highest[id]
		for seq := high - 12; seq <= high+12; seq++ {
			b.look(t, id, seq)
		}
		for _, seq := range []int64{-1 << 63, -1, 0, 1, 2, 8, 9, top - 1, top, top + 1, 1<<63 - 1} {
			b.look(t, id, seq)
		}
	}
}

// loaded is of the same bytes.
func (b *both) loaded(t *testing.T) *both {
	t.Helper()
	x := loads(t, "loaded", b.said.image().bytes())
	if x == nil {
		t.Fatalf("%v isn't loaded", b.said.image())
	}
	return x
}

// loads asks whether bytes are loaded, if they should be, and tells the Table, or nil.
func loads(t *testing.T, name any, b []byte) *both {
	t.Helper()
	was := slices.Clone(b)
	table, e := sess.Load(b)
	s := saidLoad(b)
	if !bytes.Equal(b, was) {
		t.Fatalf("%v: Load has changed the bytes", name)
	}
	if s == nil {
		if table != nil || e != api.ErrForm {
			t.Fatalf("%v: Load(%v) = %v, %d", name, b, table, e)
		}
		return nil
	}
	if table == nil || e != api.OK {
		t.Fatalf("%v: Load(%v) = %d", name, b, e)
	}
	if !bytes.Equal(table.Bytes(), b) {
		t.Fatalf("%v: %v are loaded, and told as %v", name, b, table.Bytes())
	}
	x := &both{table, s}
	x.told(t, name)
	return x
}
