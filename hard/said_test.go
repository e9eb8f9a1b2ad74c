package hard_test

import (
	"bytes"
	"encoding/binary"
	"fmt"
	"hash/crc32"
	"slices"
	"testing"

	"quillet/api"
	"quillet/disk"
	"quillet/hard"
)

// frameOf says a payload's frame by the document's words.
func frameOf(payload []byte) []byte {
	b := binary.LittleEndian.AppendUint32(nil, uint32(len(payload)))
	b = binary.LittleEndian.AppendUint32(b, crc32.Checksum(payload, crc32.MakeTable(crc32.Castagnoli)))
	return append(b, payload...)
}

// numbersOf says a frame of numbers.
func numbersOf(ns ...int64) []byte {
	var b []byte
	for _, n := range ns {
		b = binary.AppendVarint(b, n)
	}
	return frameOf(b)
}

// pair is a term and a vote.
type pair struct {
	term int64
	vote int
}

func (p pair) right() bool {
	return p.term >= 0 && p.term <= 1<<40 && p.vote >= 0 && p.vote <= 7
}

func (p pair) file() []byte { return numbersOf(p.term, int64(p.vote)) }

// pairOf is the right pair whose file has just these bytes; zeros, if there is none.
func pairOf(b []byte) pair {
	if len(b) < 8 {
		return pair{}
	}
	term, n := binary.Varint(b[8:])
	vote, _ := binary.Varint(b[8+max(0, n):])
	if p := (pair{term, int(vote)}); p.right() && bytes.Equal(p.file(), b) {
		return p
	}
	return pair{}
}

// said is what a Hard does by the document's words, on a disk of its own.
type said struct {
	d *disk.Disk
	pair
}

func saidOpen(d *disk.Disk) (*said, api.Errno) {
	if d.Down() {
		return nil, api.ErrDown
	}
	if slices.Contains(d.Names(), "hard.tmp") {
		if e := d.Remove("hard.tmp"); e != api.OK {
			return nil, e
		}
	}
	b, _ := d.Read("hard")
	return &said{d, pairOf(b)}, api.OK
}

func (s *said) save(p pair) api.Errno {
	if !p.right() {
		return api.ErrArg
	}
	if p == s.pair {
		return api.OK
	}
	if e := s.d.Create("hard.tmp"); e != api.OK {
		return e
	}
	if e := s.d.Write("hard.tmp", 0, p.file()); e != api.OK {
		return e
	}
	if e := s.d.Sync("hard.tmp"); e != api.OK {
		return e
	}
	if e := s.d.Rename("hard.tmp", "hard"); e != api.OK {
		return e
	}
	s.pair = p
	return api.OK
}

// call is an Open, or a Save of a pair.
type call struct {
	open bool
	pair
}

func (c call) String() string {
	if c.open {
		return "Open"
	}
	return fmt.Sprintf("Save(%d, %d)", c.term, c.vote)
}

func save(term int64, vote int) call { return call{pair: pair{term, vote}} }

// both are a Hard and what the document says of it, each on its disk; nil where the last Open has failed.
type both struct {
	d, twin *disk.Disk
	h       *hard.Hard
	s       *said
}

func newBoth() *both { return &both{d: disk.New(), twin: disk.New()} }

// each does something to both disks.
func (x *both) each(f func(d *disk.Disk)) {
	f(x.d)
	f(x.twin)
}

func (x *both) fail(n int) { x.each(func(d *disk.Disk) { d.Fail(n) }) }

func (x *both) crash(t *testing.T, keep []bool) {
	t.Helper()
	x.each(func(d *disk.Disk) { d.Crash(keep) })
	x.sameDisks(t, "Crash")
}

// must does a call, which answers the same of both, and leaves both the same.
func (x *both) must(t *testing.T, c call) api.Errno {
	t.Helper()
	var got, want api.Errno
	if c.open {
		x.h, got = hard.Open(x.d)
		x.s, want = saidOpen(x.twin)
	} else {
		got, want = x.h.Save(c.term, c.vote), x.s.save(c.pair)
	}
	if got != want {
		t.Fatalf("%v = %d, not %d", c, got, want)
	}
	if (x.h == nil) != (x.s == nil) {
		t.Fatalf("%v = %v, %d", c, x.h, got)
	}
	x.sameDisks(t, c.String())
	if x.h != nil && x.kept() != x.s.pair {
		t.Fatalf("%v: %v, not %v", c, x.kept(), x.s.pair)
	}
	return got
}

func (x *both) ok(t *testing.T, cs ...call) {
	t.Helper()
	for _, c := range cs {
		if e := x.must(t, c); e != api.OK {
			t.Fatalf("%v = %d", c, e)
		}
	}
}

func (x *both) kept() pair { return pair{x.h.Term(), x.h.Vote()} }

func (x *both) sameDisks(t *testing.T, what string) {
	t.Helper()
	if x.d.Down() != x.twin.Down() || x.d.Loose() != x.twin.Loose() || !slices.Equal(x.d.Names(), x.twin.Names()) {
		t.Fatalf("%s: down %v, not %v; %d loose, not %d; %q, not %q", what, x.d.Down(), x.twin.Down(), x.d.Loose(), x.twin.Loose(), x.d.Names(), x.twin.Names())
	}
	for _, name := range x.twin.Names() {
		got, _ := x.d.Read(name)
		want, _ := x.twin.Read(name)
		if !bytes.Equal(got, want) {
			t.Fatalf("%s: %q has %v, not %v", what, name, got, want)
		}
	}
}

// put makes files on both disks; all of them are synced, or none.
func (x *both) put(t *testing.T, files map[string][]byte, synced bool) {
	t.Helper()
	x.each(func(d *disk.Disk) {
		for name, b := range files {
			if d.Create(name) != api.OK || d.Write(name, 0, b) != api.OK || synced && d.Sync(name) != api.OK {
				t.Fatalf("file %q of %d bytes can't be made", name, len(b))
			}
		}
	})
}
