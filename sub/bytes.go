package sub

import (
	"bytes"

	"quillet/api"
	"quillet/pack"
)

// Encode is a right submission's bytes.
func Encode(s api.Sub) ([]byte, api.Errno) {
	if e := Check(s); e != api.OK {
		return nil, e
	}
	vs := []pack.Val{num(s.Session), num(s.Seq), num(s.Snap)}
	vs = append(vs, keys(s.Reads)...)
	vs = append(vs, spans(s.Spans)...)
	vs = append(vs, keys(s.Writes)...)
	return pack.Put(vs)
}

func num(n int64) pack.Val { return pack.Val{Kind: pack.Num, N: n} }

func key(x float64) pack.Val { return pack.Val{Kind: pack.Key, X: x} }

func keys(xs []float64) []pack.Val {
	vs := []pack.Val{num(int64(len(xs)))}
	for _, x := range xs {
		vs = append(vs, key(x))
	}
	return vs
}

// spans leaves out which ends are open: of forms none is.
func spans(ss []api.Span) []pack.Val {
	vs := []pack.Val{num(int64(len(ss)))}
	for _, s := range ss {
		vs = append(vs, key(s.Lo), key(s.Hi))
	}
	return vs
}

// Decode is the submission of bytes.
func Decode(b []byte) (api.Sub, api.Errno) {
	var s api.Sub
	e := pack.Read(b, func(r *pack.Reader) {
		s = read(r)
		// Whatever isn't right about it: no right submission has these bytes.
		if Check(s) != api.OK {
			r.Fail(api.ErrForm)
		}
	})
	if e != api.OK {
		return api.Sub{}, e
	}
	return s, api.OK
}

func read(r *pack.Reader) api.Sub {
	var s api.Sub
	s.Session, s.Seq, s.Snap = r.Num(), r.Num(), r.Num()
	s.Reads = readKeys(r, api.MaxReads)
	s.Spans = readSpans(r, api.MaxSpans)
	s.Writes = readKeys(r, api.MaxWrites)
	return s
}

func readKeys(r *pack.Reader, most int) []float64 {
	xs := make([]float64, r.Count(most))
	for i := range xs {
		xs[i] = r.Key()
	}
	return xs
}

func readSpans(r *pack.Reader, most int) []api.Span {
	ss := make([]api.Span, r.Count(most))
	for i := range ss {
		ss[i].Lo, ss[i].Hi = r.Key(), r.Key()
	}
	return ss
}

// Same tells whether two right submissions are the same.
func Same(a, b api.Sub) bool {
	x, e := Encode(a)
	y, f := Encode(b)
	return e == api.OK && f == api.OK && bytes.Equal(x, y)
}
