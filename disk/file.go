package disk

import (
	"bytes"

	"quillet/api"
)

// file is a file's bytes as they are now and as they are safe; the two share no memory.
type file struct{ now, safe []byte }

// beyond tells whether a place is none of the file's, its end counted in.
func (f *file) beyond(at int) bool { return at < 0 || at > len(f.now) }

func (f *file) write(at int, b []byte) { f.now = overwrite(f.now, at, b) }

// overwrite is bytes with others written over them from a place on; zeros fill what lies between.
func overwrite(b []byte, at int, with []byte) []byte {
	if short := at + len(with) - len(b); short > 0 {
		b = append(b, make([]byte, short)...)
	}
	copy(b[at:], with)
	return b
}

func (f *file) cut(n int) {
	f.now = f.now[:n]
	f.safe = f.safe[:min(n, len(f.safe))]
}

func (f *file) sync() { f.safe = bytes.Clone(f.now) }

// loose is where the loose sectors begin.
func (f *file) loose() []int {
	var starts []int
	for at := 0; at < len(f.now); at += api.Sector {
		if !bytes.Equal(sector(f.now, at), sector(f.safe, at)) {
			starts = append(starts, at)
		}
	}
	return starts
}

// sector is what there is of the sector that begins at a place: the last one may be shorter, those behind it have nothing.
func sector(b []byte, at int) []byte {
	return b[min(at, len(b)):min(at+api.Sector, len(b))]
}

// crash leaves what is safe, and of the loose sectors those that are kept; where keep ends, none is.
func (f *file) crash(starts []int, keep []bool) {
	for i, kept := range keep {
		if kept {
			f.safe = overwrite(f.safe, starts[i], sector(f.now, starts[i]))
		}
	}
	f.now = bytes.Clone(f.safe)
}
