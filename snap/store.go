package snap

import (
	"slices"
	"strconv"
	"strings"

	"quillet/api"
	"quillet/disk"
)

const (
	temp   = "snap.tmp"
	digits = 15
)

// Store is snapshots on a disk.
type Store struct {
	disk *disk.Disk
	last Snap // its Index is 0, if there is none
}

func isSnap(name string) bool {
	number, ok := strings.CutPrefix(name, "s")
	return ok && len(number) == digits && strings.Trim(number, "0123456789") == ""
}

func nameOf(index int64) string {
	number := strconv.FormatInt(index, 10)
	return "s" + strings.Repeat("0", digits-len(number)) + number
}

// step is one of the disk's.
type step func() api.Errno

// run does steps, up to the first that fails.
func run(steps []step) api.Errno {
	for _, do := range steps {
		if code := do(); code != api.OK {
			return code
		}
	}
	return api.OK
}

// Open is what is kept on a disk.
func Open(d *disk.Disk) (*Store, api.Errno) {
	// Where there is nothing to Remove, no step would tell it.
	if d.Down() {
		return nil, api.ErrDown
	}
	s := &Store{disk: d}
	var steps []step
	if slices.Contains(d.Names(), temp) {
		steps = append(steps, s.remove(temp))
	}
	names := slices.DeleteFunc(d.Names(), func(name string) bool { return !isSnap(name) })
	kept := s.load(names)
	for _, name := range names {
		if name != kept {
			steps = append(steps, s.remove(name))
		}
	}
	if code := run(steps); code != api.OK {
		return nil, code
	}
	return s, api.OK
}

// load takes the newest snapshot of files of these names, and tells the file's name; an empty one, if there is none.
func (s *Store) load(names []string) string {
	for _, name := range slices.Backward(names) {
		b, _ := s.disk.Read(name)
		if x, code := Read(b); code == api.OK && nameOf(x.Index) == name {
			s.last = x
			return name
		}
	}
	return ""
}

func (s *Store) remove(name string) step {
	return func() api.Errno { return s.disk.Remove(name) }
}

// Put keeps a snapshot.
func (s *Store) Put(x Snap) api.Errno {
	b, code := Bytes(x)
	switch {
	case code != api.OK:
		return code
	case x.Index <= s.last.Index:
		return api.ErrOld
	}
	if code := run(s.steps(nameOf(x.Index), b)); code != api.OK {
		return code
	}
	s.last = clone(x)
	return api.OK
}

// steps lead to a file of these bytes; the elder one is there until the new one is, as a whole.
func (s *Store) steps(name string, b []byte) []step {
	steps := []step{func() api.Errno { return s.disk.Create(temp) }}
	size := 0
	for piece := range slices.Chunk(b, api.Segment) {
		at := size
		steps = append(steps, func() api.Errno { return s.disk.Write(temp, at, piece) })
		size += len(piece)
	}
	steps = append(steps,
		func() api.Errno { return s.disk.Sync(temp) },
		func() api.Errno { return s.disk.Rename(temp, name) },
	)
	if s.last.Index > 0 {
		steps = append(steps, s.remove(nameOf(s.last.Index)))
	}
	return steps
}

// Last is the snapshot that is kept.
func (s *Store) Last() (Snap, bool) { return clone(s.last), s.last.Index > 0 }
