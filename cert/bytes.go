package cert

import (
	"cmp"
	"math"

	"quillet/api"
	"quillet/pack"
	"quillet/preds"
	"quillet/span"
	"quillet/sub"
	"quillet/vers"
)

// Bytes is all that a Cert knows.
func (c *Cert) Bytes() []byte {
	vs := []pack.Val{num(c.count), num(c.horizon)}
	vs = append(vs, recentVals(c.recent)...)
	for _, t := range c.old.keyTables() {
		vs = append(vs, keyVals(t)...)
	}
	vs = append(vs, spanVals(c.old.spans)...)
	// None of them is too long: a right submission has fewer bytes than may be.
	out, _ := pack.Put(vs)
	return out
}

func num(n int64) pack.Val { return pack.Val{Kind: pack.Num, N: n} }

func key(x float64) pack.Val { return pack.Val{Kind: pack.Key, X: x} }

func recentVals(recent []known) []pack.Val {
	vs := []pack.Val{num(int64(len(recent)))}
	for _, k := range recent {
		b, _ := sub.Encode(k.Sub)
		vs = append(vs, pack.Val{Kind: pack.Flag, On: k.out}, pack.Val{Kind: pack.Bytes, B: b})
	}
	return vs
}

func keyVals(t *vers.Table) []pack.Val {
	vs := []pack.Val{num(int64(t.Len()))}
	for _, x := range t.All() {
		vs = append(vs, key(x.Key), num(x.Num))
	}
	return vs
}

// spanVals leaves out which ends are open: of forms none is.
func spanVals(t *preds.Table) []pack.Val {
	vs := []pack.Val{num(int64(t.Len()))}
	for _, x := range t.All() {
		vs = append(vs, key(x.Span.Lo), key(x.Span.Hi), num(x.Num))
	}
	return vs
}

// Load is the Cert of bytes.
func Load(conf Conf, b []byte) (*Cert, api.Errno) {
	c := New(conf)
	code := pack.Read(b, func(r *pack.Reader) {
		l := loader{r, c}
		l.countAndHorizon()
		l.transactions()
		for _, t := range c.old.keyTables() {
			l.keys(t)
		}
		l.spans(c.old.spans)
	})
	if code != api.OK {
		return nil, code
	}
	return c, api.OK
}

// loader reads what a Cert knows into it.
type loader struct {
	*pack.Reader
	cert *Cert
}

// need ends the reading where something doesn't hold.
func (l loader) need(holds bool) {
	if !holds {
		l.Fail(api.ErrForm)
	}
}

func (l loader) countAndHorizon() {
	l.cert.count, l.cert.horizon = l.Num(), l.Num()
	l.need(0 <= l.cert.horizon && l.cert.horizon <= l.cert.count && l.cert.count <= api.MaxNumber)
}

func (l loader) transactions() {
	c := l.cert
	many := l.Count(int(min(int64(c.keep), c.count-c.horizon)))
	for i := range many {
		c.recent = append(c.recent, l.transaction(c.count-int64(many-1-i)))
	}
}

func (l loader) transaction(n int64) known {
	out := l.Flag()
	s, code := sub.Decode(l.Bytes())
	l.need(code == api.OK && s.Snap < n)
	return known{api.Done{Num: n, Sub: s}, out}
}

// keys leaves it to the table how many there may be.
func (l loader) keys(t *vers.Table) {
	last := math.NaN() // ahead of every key, and no key itself
	for range l.Count(api.MaxOld) {
		x, n := l.Key(), l.number()
		l.need(cmp.Compare(last, x) < 0 && t.Put(x, n) == api.OK)
		last = x
	}
}

func (l loader) spans(t *preds.Table) {
	last := api.Span{LoOpen: true, HiOpen: true} // ahead of every span that has keys
	for range l.Count(api.MaxOld) {
		s := api.Span{Lo: l.Key(), Hi: l.Key()}
		n := l.number()
		l.need(span.Cmp(last, s) < 0 && t.Put(s, n) == api.OK)
		last = s
	}
}

// number reads one of the summary's: that of a transaction behind the horizon and ahead of the recent ones.
func (l loader) number() int64 {
	n, c := l.Num(), l.cert
	l.need(len(c.recent) > 0 && c.horizon < n && n < c.recent[0].Num)
	return n
}
