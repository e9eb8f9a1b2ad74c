package wal

import (
	"bytes"
	"slices"
	"strconv"
	"strings"

	"quillet/api"
	"quillet/disk"
)

const digits = 15

// segment is a file with at least one entry.
type segment struct {
	name    string
	entries []api.Entry
	ends    []int // where each entry's record ends
	written bool  // since it was last Synced
}

func isSegment(name string) bool {
	number, ok := strings.CutPrefix(name, "w")
	return ok && len(number) == digits && strings.Trim(number, "0123456789") == ""
}

func nameOf(index int64) string {
	number := strconv.FormatInt(index, 10)
	return "w" + strings.Repeat("0", digits-len(number)) + number
}

// indexOf is the index that a segment's name has.
func indexOf(name string) int64 {
	index, _ := strconv.ParseInt(name[1:], 10, 64)
	return index
}

func (s *segment) first() int64 { return s.entries[0].Index }

func (s *segment) last() int64 { return s.entries[len(s.entries)-1].Index }

func (s *segment) size() int {
	if len(s.ends) == 0 {
		return 0
	}
	return s.ends[len(s.ends)-1]
}

func (s *segment) full() bool { return s.size() >= api.Segment }

func (s *segment) add(e api.Entry, end int) {
	s.entries = append(s.entries, e)
	s.ends = append(s.ends, end)
}

// load takes the entries with which bytes begin, as long as they go on from an index.
func (s *segment) load(b []byte, next int64) {
	for e, end := range records(b) {
		if e.Index != next {
			return
		}
		s.add(e, end)
		next++
	}
}

func (s *segment) write(d *disk.Disk, e api.Entry) api.Errno {
	b := record(e)
	at := s.size()
	if code := d.Write(s.name, at, b); code != api.OK {
		return code
	}
	s.written = true
	e.Data = bytes.Clone(e.Data)
	s.add(e, at+len(b))
	return api.OK
}

func (s *segment) sync(d *disk.Disk) api.Errno {
	if !s.written {
		return api.OK
	}
	code := d.Sync(s.name)
	s.written = code != api.OK
	return code
}

// cut leaves the first n entries, at least one.
func (s *segment) cut(d *disk.Disk, n int) api.Errno {
	if code := d.Cut(s.name, s.ends[n-1]); code != api.OK {
		return code
	}
	s.entries = slices.Delete(s.entries, n, len(s.entries))
	s.ends = s.ends[:n]
	return api.OK
}
