package sess

import (
	"quillet/api"
	"quillet/pack"
)

// Bytes is all of it.
func (t *Table) Bytes() []byte {
	ids := t.Sessions()
	ns := []int64{int64(len(ids))}
	for _, id := range ids {
		kept := t.sessions[id]
		ns = append(ns, id, highest(kept), int64(len(kept)))
		for _, x := range kept {
			ns = append(ns, x.Seq, int64(x.Verdict.Code), x.Verdict.Num)
		}
	}
	return numbers(ns)
}

func numbers(ns []int64) []byte {
	vs := make([]pack.Val, len(ns))
	for i, n := range ns {
		vs[i] = pack.Val{Kind: pack.Num, N: n}
	}
	// Of numbers none is too long, or of a kind that isn't.
	out, _ := pack.Put(vs)
	return out
}

// Load is the table of bytes.
func Load(b []byte) (*Table, api.Errno) {
	t := New()
	code := pack.Read(b, func(r *pack.Reader) {
		last := int64(0)
		for range r.Count(api.MaxSess) {
			last = within(r, last+1, api.MaxNumber)
			t.sessions[last] = readKept(r)
		}
	})
	if code != api.OK {
		return nil, code
	}
	return t, api.OK
}

// readKept reads what is kept of a session: numbers of its window, rising, up to the highest.
func readKept(r *pack.Reader) []Item {
	high := within(r, 1, api.MaxNumber)
	last := max(0, high-api.Window)
	var kept []Item
	for range r.Count(api.Window) {
		last = within(r, last+1, high)
		kept = append(kept, Item{last, readVerdict(r)})
	}
	if last != high {
		r.Fail(api.ErrForm)
	}
	return kept
}

func readVerdict(r *pack.Reader) api.Verdict {
	code := within(r, 0, maxCode)
	return api.Verdict{Code: api.Errno(code), Num: within(r, 0, api.MaxNumber)}
}

// within reads a number that must be from a least to a greatest one.
func within(r *pack.Reader, least, most int64) int64 {
	n := r.Num()
	if outside(n, least, most) {
		r.Fail(api.ErrForm)
	}
	return n
}
