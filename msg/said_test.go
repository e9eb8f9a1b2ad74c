package msg_test

import (
	"bytes"
	"encoding/binary"
	"hash/crc32"
	"math"
	"slices"
	"testing"

	"quillet/api"
	"quillet/msg"
)

const top = 1 << 40

// inside tells whether a number is in its range.
func inside[T int | int64](n, least, most T) bool { return n >= least && n <= most }

// saidRight is the document's words for a message that is right.
func saidRight(m api.Msg) bool {
	if !inside(m.From, 1, 7) || !inside(m.To, 1, 7) || m.From == m.To || !inside(m.Term, 1, top) {
		return false
	}
	// What is left of a copy when all that its kind names is taken away must be zero.
	rest := m
	rest.From, rest.To, rest.Kind, rest.Term = 0, 0, 0, 0
	ok := true
	switch m.Kind {
	case 1, 3:
		ok = inside(m.Index, 0, top) && inside(m.LogTerm, 0, top)
		rest.Index, rest.LogTerm = 0, 0
	case 2, 4:
		rest.Ok = false
	case 5:
		ok = inside(m.Index, 0, top) && inside(m.LogTerm, 0, top) && inside(m.Commit, 0, top) && saidEntries(m)
		rest.Index, rest.LogTerm, rest.Commit, rest.Entries = 0, 0, 0, nil
	case 6:
		ok = inside(m.Index, 0, top)
		rest.Index, rest.Ok = 0, false
	case 7:
		ok = inside(m.Index, 1, top) && inside(m.LogTerm, 0, top) && saidConf(m.Conf) && inside(m.Off, 0, 32768) && len(m.Data) <= 64
		rest.Index, rest.LogTerm, rest.Conf, rest.Off, rest.Data, rest.Last = 0, 0, api.Conf{}, 0, nil, false
	case 8:
		ok = inside(m.Index, 1, top) && inside(m.Off, 0, 32768)
		rest.Index, rest.Off, rest.Last = 0, 0, false
	default:
		return false
	}
	return ok && equal(rest, api.Msg{})
}

func saidEntries(m api.Msg) bool {
	if len(m.Entries) > 8 {
		return false
	}
	for i, e := range m.Entries {
		if !inside(e.Index, 1, top) || !inside(e.Term, 0, top) || !inside(e.Kind, 0, 2) || len(e.Data) > 2048 {
			return false
		}
		if e.Index != m.Index+int64(i)+1 || e.Term < m.LogTerm || e.Term > m.Term {
			return false
		}
		if i > 0 && e.Term < m.Entries[i-1].Term {
			return false
		}
	}
	return true
}

// saidConf is layer 15's words for a configuration that is right.
func saidConf(c api.Conf) bool {
	seen := map[int]bool{}
	for _, list := range [][]int{c.Voters, c.Learners} {
		for i, n := range list {
			if !inside(n, 1, 7) || seen[n] || i > 0 && list[i-1] > n {
				return false
			}
			seen[n] = true
		}
	}
	return len(c.Voters) > 0
}

// equal tells whether two messages are the same, right or not; a list that is nil and one that is empty are the same.
func equal(a, b api.Msg) bool {
	return a.Kind == b.Kind && a.From == b.From && a.To == b.To && a.Term == b.Term && a.Index == b.Index && a.LogTerm == b.LogTerm && a.Commit == b.Commit &&
		a.Ok == b.Ok && slices.EqualFunc(a.Entries, b.Entries, sameEntry) && a.Off == b.Off && bytes.Equal(a.Data, b.Data) && a.Last == b.Last &&
		slices.Equal(a.Conf.Voters, b.Conf.Voters) && slices.Equal(a.Conf.Learners, b.Conf.Learners)
}

func sameEntry(a, b api.Entry) bool {
	return a.Index == b.Index && a.Term == b.Term && a.Kind == b.Kind && bytes.Equal(a.Data, b.Data)
}

func putNum(out []byte, n int64) []byte { return binary.AppendVarint(out, n) }

func putBytes(out, b []byte) []byte { return append(putNum(out, int64(len(b))), b...) }

func putFlag(out []byte, on bool) []byte {
	if on {
		return append(out, 1)
	}
	return append(out, 0)
}

func putConf(out []byte, c api.Conf) []byte {
	var b []byte
	for _, list := range [][]int{c.Voters, c.Learners} {
		b = putNum(b, int64(len(list)))
		for _, n := range list {
			b = putNum(b, int64(n))
		}
	}
	return putBytes(out, b)
}

// form is a message's payload by the document's words, kind by kind; of one that isn't right, too.
func form(m api.Msg) []byte {
	var b []byte
	for _, n := range []int64{int64(m.Kind), int64(m.From), int64(m.To), m.Term} {
		b = putNum(b, n)
	}
	switch m.Kind {
	case 1, 3:
		b = putNum(putNum(b, m.Index), m.LogTerm)
	case 2, 4:
		b = putFlag(b, m.Ok)
	case 5:
		b = putNum(putNum(putNum(b, m.Index), m.LogTerm), m.Commit)
		b = putNum(b, int64(len(m.Entries)))
		for _, e := range m.Entries {
			b = putBytes(putNum(putNum(b, e.Term), int64(e.Kind)), e.Data)
		}
	case 6:
		b = putFlag(putNum(b, m.Index), m.Ok)
	case 7:
		b = putNum(putNum(putNum(b, m.Index), m.LogTerm), m.Off)
		b = putConf(putFlag(putBytes(b, m.Data), m.Last), m.Conf)
	case 8:
		b = putFlag(putNum(putNum(b, m.Index), m.Off), m.Last)
	}
	return b
}

// frame is layer 3's frame of bytes, of any length.
func frame(payload []byte) []byte {
	b := binary.LittleEndian.AppendUint32(nil, uint32(len(payload)))
	b = binary.LittleEndian.AppendUint32(b, crc32.Checksum(payload, crc32.MakeTable(crc32.Castagnoli)))
	return append(b, payload...)
}

// loose reads values without asking whether they are in their one form; what isn't there is zero.
type loose struct{ rest []byte }

func (l *loose) num() int64 {
	n, size := binary.Varint(l.rest)
	l.rest = l.rest[max(size, 0):]
	return n
}

func (l *loose) flag() bool {
	if len(l.rest) == 0 {
		return false
	}
	on := l.rest[0] == 1
	l.rest = l.rest[1:]
	return on
}

func (l *loose) bytes() []byte {
	n := int(max(0, min(l.num(), int64(len(l.rest)))))
	b := l.rest[:n]
	l.rest = l.rest[n:]
	return b
}

func (l *loose) members() []int {
	var out []int
	for range min(l.num(), 100) {
		out = append(out, int(l.num()))
	}
	return out
}

// guess is the only message that may have a payload.
func guess(payload []byte) api.Msg {
	l := &loose{payload}
	m := api.Msg{Kind: int(l.num()), From: int(l.num()), To: int(l.num()), Term: l.num()}
	switch m.Kind {
	case 1, 3:
		m.Index, m.LogTerm = l.num(), l.num()
	case 2, 4:
		m.Ok = l.flag()
	case 5:
		m.Index, m.LogTerm, m.Commit = l.num(), l.num(), l.num()
		for i := range min(l.num(), 100) {
			m.Entries = append(m.Entries, api.Entry{Index: m.Index + i + 1, Term: l.num(), Kind: int(l.num()), Data: l.bytes()})
		}
	case 6:
		m.Index, m.Ok = l.num(), l.flag()
	case 7:
		m.Index, m.LogTerm, m.Off, m.Data, m.Last = l.num(), l.num(), l.num(), l.bytes(), l.flag()
		inner := &loose{l.bytes()}
		m.Conf = api.Conf{Voters: inner.members(), Learners: inner.members()}
	case 8:
		m.Index, m.Off, m.Last = l.num(), l.num(), l.flag()
	}
	return m
}

// saidDecode is the right message of just these bytes, if there is one.
func saidDecode(b []byte) (api.Msg, bool) {
	if len(b) < 8 || len(b) > 8+4096 {
		return api.Msg{}, false
	}
	m := guess(b[8:])
	if !saidRight(m) || !bytes.Equal(frame(form(m)), b) {
		return api.Msg{}, false
	}
	return m, true
}

// asks holds what is answered of a message against the document's words; it tells what Encode answered.
func asks(t *testing.T, m api.Msg) api.Errno {
	t.Helper()
	right := saidRight(m)
	if msg.Right(m) != right {
		t.Fatalf("Right(%v) = %v", m, !right)
	}
	if msg.Same(m, m) != right {
		t.Fatalf("Same(%v, itself) = %v", m, !right)
	}
	b, code := msg.Encode(m)
	if !right {
		if code != api.ErrArg || len(b) != 0 {
			t.Fatalf("Encode(%v) = %v, %d", m, b, code)
		}
		return code
	}
	payload := form(m)
	if len(payload) > 4096 {
		if code != api.ErrLong || len(b) != 0 {
			t.Fatalf("Encode of %d bytes = %d bytes, %d", len(payload), len(b), code)
		}
		return code
	}
	if code != api.OK || !bytes.Equal(b, frame(payload)) {
		t.Fatalf("Encode(%v) = %v, %d; not %v", m, b, code, frame(payload))
	}
	if back, code := msg.Decode(b); code != api.OK || !equal(back, m) || !msg.Same(back, m) || !msg.Same(m, back) {
		t.Fatalf("Decode(Encode(%v)) = %v, %d", m, back, code)
	}
	return code
}

// decodes holds what Decode answers against the document's words; it tells whether there is a message.
func decodes(t *testing.T, b []byte) bool {
	t.Helper()
	want, ok := saidDecode(b)
	m, code := msg.Decode(b)
	if !ok {
		if code != api.ErrForm || !equal(m, api.Msg{}) {
			t.Fatalf("Decode(%v) = %v, %d", b, m, code)
		}
		return false
	}
	if code != api.OK || !equal(m, want) {
		t.Fatalf("Decode(%v) = %v, %d; not %v", b, m, code, want)
	}
	if again, code := msg.Encode(m); code != api.OK || !bytes.Equal(again, b) {
		t.Fatalf("Encode(Decode(%v)) = %v, %d", b, again, code)
	}
	return true
}

// samples are right messages of each kind: with the least of what it names, with some, and with the most.
func samples() []api.Msg {
	long := func(index, term int64, sizes ...int) []api.Entry {
		var es []api.Entry
		for i, n := range sizes {
			es = append(es, api.Entry{Index: index + int64(i) + 1, Term: term, Kind: i % 3, Data: bytes.Repeat([]byte{byte(i + 1)}, n)})
		}
		return es
	}
	all := []int{1, 2, 3, 4, 5, 6, 7}
	out := []api.Msg{
		{Kind: api.Append, Index: 4, LogTerm: 2, Commit: 5, Entries: long(4, 3, 1, 0, 2)},
		{Kind: api.Append, Entries: long(0, 0, 0)},
		{Kind: api.Append, Index: top, LogTerm: top, Commit: top},
		{Kind: api.Append, Index: top - 8, LogTerm: 3, Commit: top, Entries: long(top-8, 3, 1, 2, 3, 4, 5, 6, 7, 8)},
		{Kind: api.Append, Index: 9, LogTerm: 1, Entries: long(9, 2, 2048)},
		{Kind: api.Piece, Index: 1, Conf: api.Conf{Voters: []int{7}}},
		{Kind: api.Piece, Index: 7, LogTerm: 1, Off: 64, Data: []byte("ab"), Last: true, Conf: api.Conf{Voters: []int{1, 2}, Learners: []int{3}}},
		{Kind: api.Piece, Index: top, LogTerm: top, Off: 32768, Data: bytes.Repeat([]byte{255}, 64), Last: true, Conf: api.Conf{Voters: all}},
		{Kind: api.Piece, Index: 2, Conf: api.Conf{Voters: []int{4}, Learners: []int{1, 2, 3, 5, 6, 7}}},
		{Kind: api.Took, Index: 1},
		{Kind: api.Took, Index: 7, Off: 128, Last: true},
		{Kind: api.Took, Index: top, Off: 32768},
	}
	for _, on := range []bool{false, true} {
		out = append(out, api.Msg{Kind: api.PreSay, Ok: on}, api.Msg{Kind: api.Say, Ok: on})
		for _, n := range []int64{0, 7, 64, top} {
			out = append(out, api.Msg{Kind: api.Got, Index: n, Ok: on})
		}
	}
	for _, kind := range []int{api.PreAsk, api.Ask} {
		out = append(out, api.Msg{Kind: kind}, api.Msg{Kind: kind, Index: 4, LogTerm: 2}, api.Msg{Kind: kind, Index: top, LogTerm: top})
	}
	for i := range out {
		out[i].From, out[i].To, out[i].Term = 1+i%7, 1+(i+1+i%6)%7, 3
		if i%5 == 0 {
			out[i].Term = top
		}
	}
	return out
}

// edges are numbers at and beyond the ends of their ranges.
func edges() []int64 {
	return []int64{math.MinInt64, -top, -1, 0, 1, 2, 3, 7, 8, 9, 63, 64, 65, 255, 256, 32767, 32768, 32769, 1 << 32, 1<<32 + 1, top - 1, top, top + 1, math.MaxInt64}
}
