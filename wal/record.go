package wal

import (
	"bytes"
	"iter"
	"slices"

	"quillet/api"
	"quillet/pack"
)

const (
	maxData   = 2048
	pieceSize = api.Sector - 1
)

// What stands ahead of a record's pieces; a sector that was lost has a zero there.
const (
	markFirst = 1
	markOther = 2
)

func right(e api.Entry) bool {
	return e.Index >= 1 && e.Index <= api.MaxNumber && e.Term >= 0 && e.Term <= api.MaxNumber && known(e.Kind) && len(e.Data) <= maxData
}

func wrong(e api.Entry) bool { return !right(e) }

func known(kind int) bool { return kind == api.Noop || kind == api.Submit || kind == api.Change }

// record is a right entry's sectors.
func record(e api.Entry) []byte {
	var out []byte
	for mark, piece := range pieces(frame(e)) {
		sector := [api.Sector]byte{mark}
		copy(sector[1:], piece)
		out = append(out, sector[:]...)
	}
	return out
}

// pieces are a frame's bytes, as many at a time as a sector takes behind its mark.
func pieces(frame []byte) iter.Seq2[byte, []byte] {
	return func(yield func(byte, []byte) bool) {
		mark := byte(markFirst)
		for piece := range slices.Chunk(frame, pieceSize) {
			if !yield(mark, piece) {
				return
			}
			mark = markOther
		}
	}
}

// frame is a right entry's frame; none of these is too long for one.
func frame(e api.Entry) []byte {
	payload, _ := pack.Put([]pack.Val{
		{Kind: pack.Num, N: e.Index},
		{Kind: pack.Num, N: e.Term},
		{Kind: pack.Num, N: int64(e.Kind)},
		{Kind: pack.Bytes, B: e.Data},
	})
	out, _ := pack.Frame(payload)
	return out
}

// records are the right entries with which bytes begin, each with where its record ends.
func records(b []byte) iter.Seq2[api.Entry, int] {
	return func(yield func(api.Entry, int) bool) {
		end := 0
		for {
			e, size, ok := readRecord(b[end:])
			end += size
			if !ok || !yield(e, end) {
				return
			}
		}
	}
}

// readRecord is the right entry of the record with which bytes begin, and how many bytes that has.
func readRecord(b []byte) (api.Entry, int, bool) {
	payload, _, code := pack.Unframe(joined(b))
	if code != api.OK {
		return api.Entry{}, 0, false
	}
	e, ok := readEntry(payload)
	if !ok {
		return api.Entry{}, 0, false
	}
	// A frame tells neither whether its last sector is whole nor what fills that up: only the same bytes throughout are a record.
	same := record(e)
	if !bytes.HasPrefix(b, same) {
		return api.Entry{}, 0, false
	}
	return e, len(same), true
}

func readEntry(payload []byte) (api.Entry, bool) {
	var e api.Entry
	code := pack.Read(payload, func(r *pack.Reader) {
		e.Index = r.Num()
		e.Term = r.Num()
		e.Kind = int(r.Num())
		e.Data = r.Bytes()
	})
	return e, code == api.OK && right(e)
}

// joined is what the sectors with which bytes begin hold of one record, and perhaps more: how long it is stands in its frame.
func joined(b []byte) []byte {
	var out []byte
	mark := byte(markFirst)
	for sector := range slices.Chunk(b, api.Sector) {
		if sector[0] != mark {
			break
		}
		out = append(out, sector[1:]...)
		mark = markOther
	}
	return out
}
