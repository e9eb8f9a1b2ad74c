package snap_test

import (
	"bytes"
	"encoding/binary"
	"fmt"
	"hash/crc32"
	"slices"
	"strconv"
	"testing"

	"quillet/api"
	"quillet/disk"
	"quillet/snap"
)

// frameOf says a payload's frame by the document's words.
func frameOf(payload []byte) []byte {
	b := binary.LittleEndian.AppendUint32(nil, uint32(len(payload)))
	b = binary.LittleEndian.AppendUint32(b, crc32.Checksum(payload, crc32.MakeTable(crc32.Castagnoli)))
	return append(b, payload...)
}

// numbersOf says a frame of numbers.
func numbersOf(ns ...int64) []byte {
	var b []byte
	for _, n := range ns {
		b = binary.AppendVarint(b, n)
	}
	return frameOf(b)
}

// headOf says the first frame's numbers, whether the snapshot is right or not.
func headOf(s snap.Snap) []int64 {
	ns := []int64{s.Index, s.Term}
	for _, members := range [][]int{s.Conf.Voters, s.Conf.Learners} {
		ns = append(ns, int64(len(members)))
		for _, n := range members {
			ns = append(ns, int64(n))
		}
	}
	return append(ns, int64(len(s.Data)))
}

// fileOf says a snapshot's file, whether it is right or not.
func fileOf(s snap.Snap) []byte {
	out := numbersOf(headOf(s)...)
	for at := 0; at < len(s.Data); at += 2048 {
		out = append(out, frameOf(s.Data[at:min(at+2048, len(s.Data))])...)
	}
	return out
}

func isRight(s snap.Snap) bool {
	if s.Index < 1 || s.Index > 1<<40 || s.Term < 0 || s.Term > 1<<40 || len(s.Data) > 32768 {
		return false
	}
	var voters, learners [8]bool
	for i, n := range s.Conf.Voters {
		if n < 1 || n > 7 || i > 0 && n <= s.Conf.Voters[i-1] {
			return false
		}
		voters[n] = true
	}
	for i, n := range s.Conf.Learners {
		if n < 1 || n > 7 || i > 0 && n <= s.Conf.Learners[i-1] || voters[n] {
			return false
		}
		learners[n] = true
	}
	return true
}

// guess is the only snapshot whose file bytes may be; whether they are, its file tells.
func guess(b []byte) snap.Snap {
	if len(b) < 8 {
		return snap.Snap{}
	}
	end := min(len(b), 8+int(binary.LittleEndian.Uint32(b)))
	head := b[8:end]
	next := func() int64 {
		n, size := binary.Varint(head)
		head = head[max(0, size):]
		return n
	}
	s := snap.Snap{Index: next(), Term: next()}
	for _, members := range []*[]int{&s.Conf.Voters, &s.Conf.Learners} {
		for range min(next(), 10) {
			*members = append(*members, int(next()))
		}
	}
	for at := end; at < len(b); at += 8 + 2048 {
		s.Data = append(s.Data, b[min(at+8, len(b)):min(at+8+2048, len(b))]...)
	}
	return s
}

// snapOf is the right snapshot of just these bytes.
func snapOf(b []byte) (snap.Snap, bool) {
	s := guess(b)
	if isRight(s) && bytes.Equal(fileOf(s), b) {
		return s, true
	}
	return snap.Snap{}, false
}

func same(a, b snap.Snap) bool {
	return a.Index == b.Index && a.Term == b.Term && slices.Equal(a.Conf.Voters, b.Conf.Voters) && slices.Equal(a.Conf.Learners, b.Conf.Learners) && bytes.Equal(a.Data, b.Data)
}

func empty(s snap.Snap) bool { return same(s, snap.Snap{}) }

// tell is a snapshot in short.
func tell(s snap.Snap) string {
	return fmt.Sprintf("%d/%d%v%v+%d", s.Index, s.Term, s.Conf.Voters, s.Conf.Learners, len(s.Data))
}

func deep(s snap.Snap) snap.Snap {
	s.Conf.Voters, s.Conf.Learners, s.Data = slices.Clone(s.Conf.Voters), slices.Clone(s.Conf.Learners), slices.Clone(s.Data)
	return s
}

func nameFor(index int64) string { return fmt.Sprintf("s%015d", index) }

func saidName(name string) bool {
	if len(name) != 16 || name[0] != 's' {
		return false
	}
	for i := 1; i < 16; i++ {
		if name[i] < '0' || name[i] > '9' {
			return false
		}
	}
	return true
}

// said is what a Store does by the document's words, on a disk of its own.
type said struct {
	d    *disk.Disk
	last snap.Snap
	has  bool
}

func saidOpen(d *disk.Disk) (*said, api.Errno) {
	if d.Down() {
		return nil, api.ErrDown
	}
	if slices.Contains(d.Names(), "snap.tmp") {
		if e := d.Remove("snap.tmp"); e != api.OK {
			return nil, e
		}
	}
	s := &said{d: d}
	for _, name := range d.Names() {
		if !saidName(name) {
			continue
		}
		b, _ := d.Read(name)
		index, _ := strconv.ParseInt(name[1:], 10, 64)
		if x, ok := snapOf(b); ok && x.Index == index && (!s.has || index > s.last.Index) {
			s.last, s.has = x, true
		}
	}
	for _, name := range d.Names() {
		if saidName(name) && (!s.has || name != nameFor(s.last.Index)) {
			if e := d.Remove(name); e != api.OK {
				return nil, e
			}
		}
	}
	return s, api.OK
}

func (s *said) put(x snap.Snap) api.Errno {
	if !isRight(x) {
		return api.ErrArg
	}
	if s.has && x.Index <= s.last.Index {
		return api.ErrOld
	}
	if e := s.d.Create("snap.tmp"); e != api.OK {
		return e
	}
	b := fileOf(x)
	for at := 0; at < len(b); at += 256 {
		if e := s.d.Write("snap.tmp", at, b[at:min(at+256, len(b))]); e != api.OK {
			return e
		}
	}
	if e := s.d.Sync("snap.tmp"); e != api.OK {
		return e
	}
	if e := s.d.Rename("snap.tmp", nameFor(x.Index)); e != api.OK {
		return e
	}
	if s.has {
		if e := s.d.Remove(nameFor(s.last.Index)); e != api.OK {
			return e
		}
	}
	s.last, s.has = deep(x), true
	return api.OK
}

// call is an Open, or a Put of a snapshot.
type call struct {
	open bool
	snap.Snap
}

func (c call) String() string {
	if c.open {
		return "Open"
	}
	return "Put(" + tell(c.Snap) + ")"
}

func open() call { return call{open: true} }

func put(s snap.Snap) call { return call{Snap: s} }

// both are a Store and what the document says of it, each on its disk; nil where the last Open has failed.
type both struct {
	d, twin *disk.Disk
	st      *snap.Store
	s       *said
}

func newBoth() *both { return &both{d: disk.New(), twin: disk.New()} }

// each does something to both disks.
func (x *both) each(f func(d *disk.Disk)) {
	f(x.d)
	f(x.twin)
}

func (x *both) fail(n int) { x.each(func(d *disk.Disk) { d.Fail(n) }) }

func (x *both) crash(t *testing.T, keep []bool) {
	t.Helper()
	x.each(func(d *disk.Disk) { d.Crash(keep) })
	x.sameDisks(t, "Crash")
}

// must does a call, which answers the same of both, and leaves both the same.
func (x *both) must(t *testing.T, c call) api.Errno {
	t.Helper()
	var got, want api.Errno
	if c.open {
		x.st, got = snap.Open(x.d)
		x.s, want = saidOpen(x.twin)
	} else {
		got, want = x.st.Put(c.Snap), x.s.put(c.Snap)
	}
	if got != want {
		t.Fatalf("%v = %d, not %d", c, got, want)
	}
	if (x.st == nil) != (x.s == nil) {
		t.Fatalf("%v = %v, %d", c, x.st, got)
	}
	x.sameDisks(t, c.String())
	if x.st == nil {
		return got
	}
	if last, ok := x.st.Last(); ok != x.s.has || !same(last, x.s.last) || !ok && !empty(last) {
		t.Fatalf("%v: Last = %s, %v, not %s, %v", c, tell(last), ok, tell(x.s.last), x.s.has)
	}
	return got
}

func (x *both) ok(t *testing.T, cs ...call) {
	t.Helper()
	for _, c := range cs {
		if e := x.must(t, c); e != api.OK {
			t.Fatalf("%v = %d", c, e)
		}
	}
}

// index is the last one's; 0 without one.
func (x *both) index() int64 {
	last, _ := x.st.Last()
	return last.Index
}

func (x *both) sameDisks(t *testing.T, what string) {
	t.Helper()
	if x.d.Down() != x.twin.Down() || x.d.Loose() != x.twin.Loose() || !slices.Equal(x.d.Names(), x.twin.Names()) {
		t.Fatalf("%s: down %v, not %v; %d loose, not %d; %q, not %q", what, x.d.Down(), x.twin.Down(), x.d.Loose(), x.twin.Loose(), x.d.Names(), x.twin.Names())
	}
	for _, name := range x.twin.Names() {
		got, _ := x.d.Read(name)
		want, _ := x.twin.Read(name)
		if !bytes.Equal(got, want) {
			t.Fatalf("%s: %q has %v, not %v", what, name, got, want)
		}
	}
}

// lay makes files on both disks; all of them are synced, or none.
func (x *both) lay(t *testing.T, files map[string][]byte, synced bool) {
	t.Helper()
	x.each(func(d *disk.Disk) {
		for name, b := range files {
			if d.Create(name) != api.OK || d.Write(name, 0, b) != api.OK || synced && d.Sync(name) != api.OK {
				t.Fatalf("file %q of %d bytes can't be made", name, len(b))
			}
		}
	})
}
