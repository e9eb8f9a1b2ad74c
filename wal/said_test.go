package wal_test

import (
	"bytes"
	"encoding/binary"
	"fmt"
	"hash/crc32"
	"slices"
	"strconv"
	"testing"

	"quillet/api"
	"quillet/disk"
	"quillet/wal"
)

// payloadOf says an entry's payload by the document's words, whether it is right or not.
func payloadOf(e api.Entry) []byte {
	b := binary.AppendVarint(nil, e.Index)
	b = binary.AppendVarint(b, e.Term)
	b = binary.AppendVarint(b, int64(e.Kind))
	b = binary.AppendVarint(b, int64(len(e.Data)))
	return append(b, e.Data...)
}

func sumOf(b []byte) uint32 { return crc32.Checksum(b, crc32.MakeTable(crc32.Castagnoli)) }

func frameOf(payload []byte) []byte {
	b := binary.LittleEndian.AppendUint32(nil, uint32(len(payload)))
	b = binary.LittleEndian.AppendUint32(b, sumOf(payload))
	return append(b, payload...)
}

// sectorsOf lays a frame's bytes into sectors.
func sectorsOf(frame []byte) []byte {
	var out []byte
	for at := 0; at < len(frame); at += 31 {
		mark := byte(2)
		if at == 0 {
			mark = 1
		}
		piece := make([]byte, 31)
		copy(piece, frame[at:])
		out = append(append(out, mark), piece...)
	}
	return out
}

func recordOf(e api.Entry) []byte { return sectorsOf(frameOf(payloadOf(e))) }

func fileOf(es ...api.Entry) []byte {
	var out []byte
	for _, e := range es {
		out = append(out, recordOf(e)...)
	}
	return out
}

func nameFor(index int64) string { return fmt.Sprintf("w%015d", index) }

func isRight(e api.Entry) bool {
	return e.Index >= 1 && e.Index <= 1<<40 && e.Term >= 0 && e.Term <= 1<<40 && e.Kind >= 0 && e.Kind <= 2 && len(e.Data) <= 2048
}

// recordAt is the right entry whose record stands at a place of a segment, by the form, byte for byte.
func recordAt(b []byte, at int) (api.Entry, int, bool) {
	if len(b)-at < 32 || b[at] != 1 {
		return api.Entry{}, 0, false
	}
	long := binary.LittleEndian.Uint32(b[at+1:])
	if long > 4096 {
		return api.Entry{}, 0, false
	}
	size := 8 + int(long)
	sectors := (size + 30) / 31
	if len(b)-at < 32*sectors {
		return api.Entry{}, 0, false
	}
	var frame []byte
	for i := range sectors {
		frame = append(frame, b[at+32*i+1:at+32*i+32]...)
	}
	e := entryOf(frame[8:size])
	if !bytes.Equal(recordOf(e), b[at:at+32*sectors]) || !isRight(e) {
		return api.Entry{}, 0, false
	}
	return e, 32 * sectors, true
}

// entryOf is the entry that a payload may be of; whether it is, its payload tells.
func entryOf(b []byte) api.Entry {
	var e api.Entry
	var kind, long int64
	for _, p := range []*int64{&e.Index, &e.Term, &kind, &long} {
		n, size := binary.Varint(b)
		*p, b = n, b[max(0, size):]
	}
	e.Kind, e.Data = int(kind), b
	return e
}

// said is what a Wal does by the document's words, on a disk of its own.
type said struct {
	d    *disk.Disk
	segs []saidSegment
}

type saidSegment struct {
	name    string
	entries []api.Entry
	size    int
	written bool
}

func (s saidSegment) first() int64 { return s.entries[0].Index }

func (s saidSegment) last() int64 { return s.entries[len(s.entries)-1].Index }

func saidName(name string) bool {
	if len(name) != 16 || name[0] != 'w' {
		return false
	}
	for i := 1; i < 16; i++ {
		if name[i] < '0' || name[i] > '9' {
			return false
		}
	}
	return true
}

// saidOpen opens a disk.
func saidOpen(d *disk.Disk) (*said, api.Errno) {
	if d.Down() {
		return nil, api.ErrDown
	}
	s := &said{d: d}
	var names []string
	for _, n := range d.Names() {
		if saidName(n) {
			names = append(names, n)
		}
	}
	var steps []func() api.Errno
	next := int64(-1)
	for i, name := range names {
		index, _ := strconv.ParseInt(name[1:], 10, 64)
		if next < 0 {
			next = index
		}
		b, _ := d.Read(name)
		seg := saidSegment{name: name}
		for index == next || len(seg.entries) > 0 {
			e, n, ok := recordAt(b, seg.size)
			if !ok || e.Index != next {
				break
			}
			seg.entries = append(seg.entries, e)
			seg.size += n
			next++
		}
		if len(seg.entries) > 0 {
			s.segs = append(s.segs, seg)
		}
		if seg.size == len(b) && len(b) > 0 {
			continue
		}
		for k := len(names) - 1; k > i; k-- {
			steps = append(steps, func() api.Errno { return d.Remove(names[k]) })
		}
		if seg.size == 0 {
			steps = append(steps, func() api.Errno { return d.Remove(name) })
		} else {
			steps = append(steps, func() api.Errno { return d.Cut(name, seg.size) })
		}
		break
	}
	for _, seg := range s.segs {
		steps = append(steps, func() api.Errno { return d.Sync(seg.name) })
	}
	for _, f := range steps {
		if e := f(); e != api.OK {
			return nil, e
		}
	}
	return s, api.OK
}

func (s *said) entries() []api.Entry {
	var out []api.Entry
	for _, seg := range s.segs {
		out = append(out, seg.entries...)
	}
	return out
}

func (s *said) append(es []api.Entry) api.Errno {
	for _, e := range es {
		if !isRight(e) {
			return api.ErrArg
		}
	}
	all := append(s.entries(), es...)
	for i := len(all) - len(es); i < len(all); i++ {
		if i > 0 && all[i].Index != all[i-1].Index+1 {
			return api.ErrGap
		}
	}
	for _, e := range es {
		if len(s.segs) == 0 || s.segs[len(s.segs)-1].size >= 256 {
			if c := s.d.Create(nameFor(e.Index)); c != api.OK {
				return c
			}
			s.segs = append(s.segs, saidSegment{name: nameFor(e.Index)})
		}
		seg := &s.segs[len(s.segs)-1]
		if c := s.d.Write(seg.name, seg.size, recordOf(e)); c != api.OK {
			return c
		}
		e.Data = slices.Clone(e.Data)
		seg.entries, seg.size, seg.written = append(seg.entries, e), seg.size+len(recordOf(e)), true
	}
	return api.OK
}

func (s *said) sync() api.Errno {
	for i := range s.segs {
		if s.segs[i].written {
			if c := s.d.Sync(s.segs[i].name); c != api.OK {
				return c
			}
			s.segs[i].written = false
		}
	}
	return api.OK
}

func (s *said) cutFrom(index int64) api.Errno {
	for n := len(s.segs); n > 0 && s.segs[n-1].first() >= index; n-- {
		if c := s.d.Remove(s.segs[n-1].name); c != api.OK {
			return c
		}
		s.segs = s.segs[:n-1]
	}
	if len(s.segs) == 0 || s.segs[len(s.segs)-1].last() < index {
		return api.OK
	}
	seg := &s.segs[len(s.segs)-1]
	left := seg.entries[:index-seg.first()]
	if c := s.d.Cut(seg.name, len(fileOf(left...))); c != api.OK {
		return c
	}
	seg.entries, seg.size = slices.Clone(left), len(fileOf(left...))
	return api.OK
}

func (s *said) dropTo(index int64) api.Errno {
	for len(s.segs) > 0 && s.segs[0].last() <= index {
		if c := s.d.Remove(s.segs[0].name); c != api.OK {
			return c
		}
		s.segs = s.segs[1:]
	}
	return api.OK
}

func (s *said) reset() api.Errno {
	for n := len(s.segs); n > 0; n-- {
		if c := s.d.Remove(s.segs[n-1].name); c != api.OK {
			return c
		}
		s.segs = s.segs[:n-1]
	}
	return api.OK
}

// call is a call of a Wal.
type call struct {
	kind  string
	es    []api.Entry
	index int64
}

func (c call) String() string {
	var es []string
	for _, e := range c.es {
		es = append(es, fmt.Sprintf("%d/%d/%d+%d", e.Index, e.Term, e.Kind, len(e.Data)))
	}
	return fmt.Sprint(c.kind, es, c.index)
}

// both are a Wal and what the document says of it, each on its disk; nil where the last Open has failed.
type both struct {
	d, twin *disk.Disk
	w       *wal.Wal
	s       *said
}

func newBoth() *both { return &both{d: disk.New(), twin: disk.New()} }

// do does a call of both, and tells both answers.
func (x *both) do(c call) (got, want api.Errno) {
	switch c.kind {
	case "Open":
		x.w, got = wal.Open(x.d)
		x.s, want = saidOpen(x.twin)
	case "Append":
		got, want = x.w.Append(c.es...), x.s.append(c.es)
	case "Sync":
		got, want = x.w.Sync(), x.s.sync()
	case "CutFrom":
		got, want = x.w.CutFrom(c.index), x.s.cutFrom(c.index)
	case "DropTo":
		got, want = x.w.DropTo(c.index), x.s.dropTo(c.index)
	case "Reset":
		got, want = x.w.Reset(), x.s.reset()
	default:
		panic(c.kind)
	}
	return
}

// must does a call, which answers the same of both; what both have behind it is the same, unless the disk has failed.
func (x *both) must(t *testing.T, c call) api.Errno {
	t.Helper()
	got, want := x.do(c)
	if got != want {
		t.Fatalf("%v = %d, not %d", c, got, want)
	}
	if c.kind == "Open" && (x.w == nil) != (want != api.OK) {
		t.Fatalf("Open = %v, %d", x.w, got)
	}
	sameDisks(t, c, x.d, x.twin)
	if want == api.OK || want == api.ErrArg || want == api.ErrGap {
		sameEntries(t, c, x.w, x.s.entries())
	}
	return want
}

func (x *both) fail(n int) {
	x.d.Fail(n)
	x.twin.Fail(n)
}

func (x *both) crash(t *testing.T, keep []bool) {
	t.Helper()
	x.d.Crash(keep)
	x.twin.Crash(keep)
	sameDisks(t, call{kind: "Crash"}, x.d, x.twin)
}

func sameDisks(t *testing.T, c call, d, twin *disk.Disk) {
	t.Helper()
	if d.Down() != twin.Down() || d.Loose() != twin.Loose() || !slices.Equal(d.Names(), twin.Names()) {
		t.Fatalf("%v: down %v, not %v; %d loose, not %d; %q, not %q", c, d.Down(), twin.Down(), d.Loose(), twin.Loose(), d.Names(), twin.Names())
	}
	for _, name := range twin.Names() {
		got, _ := d.Read(name)
		want, _ := twin.Read(name)
		if !bytes.Equal(got, want) {
			t.Fatalf("%v: %q has %v, not %v", c, name, got, want)
		}
	}
}

func sameEntry(a, b api.Entry) bool {
	return a.Index == b.Index && a.Term == b.Term && a.Kind == b.Kind && bytes.Equal(a.Data, b.Data)
}

func sameEntries(t *testing.T, c call, w *wal.Wal, want []api.Entry) {
	t.Helper()
	var first, last int64
	if len(want) > 0 {
		first, last = want[0].Index, want[len(want)-1].Index
	}
	if w.First() != first || w.Last() != last {
		t.Fatalf("%v: %d to %d, not %d to %d", c, w.First(), w.Last(), first, last)
	}
	if got := w.Entries(); !slices.EqualFunc(got, want, sameEntry) {
		t.Fatalf("%v: %v, not %v", c, got, want)
	}
}
