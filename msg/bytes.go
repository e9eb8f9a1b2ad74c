package msg

import (
	"quillet/api"
	"quillet/conf"
	"quillet/pack"
)

// Encode is a message's frame.
func Encode(m api.Msg) ([]byte, api.Errno) {
	if !Right(m) {
		return nil, api.ErrArg
	}
	return pack.Frame(payload(m))
}

// payload is a right message's payload, of any length.
func payload(m api.Msg) []byte {
	n := named(m.Kind)
	ahead, behind := numbers(&m, n)
	vs := []pack.Val{count(m.Kind), count(m.From), count(m.To), num(m.Term)}
	vs = appendNumbers(vs, ahead)
	if n.ok {
		vs = append(vs, flag(m.Ok))
	}
	if n.entries {
		vs = appendEntries(vs, m.Entries)
	}
	vs = appendNumbers(vs, behind)
	if n.data {
		vs = append(vs, text(m.Data))
	}
	if n.last {
		vs = append(vs, flag(m.Last))
	}
	if n.conf {
		b, _ := conf.Bytes(m.Conf)
		vs = append(vs, text(b))
	}
	// Of a right message nothing can be refused: no value of it is too long.
	b, _ := pack.Put(vs)
	return b
}

func appendNumbers(vs []pack.Val, ns []number) []pack.Val {
	for _, x := range ns {
		if x.named {
			vs = append(vs, num(*x.at))
		}
	}
	return vs
}

// appendEntries leaves the indexes out: they are those behind the message's own.
func appendEntries(vs []pack.Val, es []api.Entry) []pack.Val {
	vs = append(vs, count(len(es)))
	for _, e := range es {
		vs = append(vs, num(e.Term), count(e.Kind), text(e.Data))
	}
	return vs
}

func num(n int64) pack.Val { return pack.Val{Kind: pack.Num, N: n} }

func count(n int) pack.Val { return num(int64(n)) }

func flag(on bool) pack.Val { return pack.Val{Kind: pack.Flag, On: on} }

func text(b []byte) pack.Val { return pack.Val{Kind: pack.Bytes, B: b} }

// Decode is the message of a frame.
func Decode(b []byte) (api.Msg, api.Errno) {
	inner, size, code := pack.Unframe(b)
	if code != api.OK || size != len(b) {
		return api.Msg{}, api.ErrForm
	}
	var m api.Msg
	code = pack.Read(inner, func(r *pack.Reader) {
		m = read(r)
		if !Right(m) {
			r.Fail(api.ErrForm)
		}
	})
	if code != api.OK {
		return api.Msg{}, api.ErrForm
	}
	return m, api.OK
}

func read(r *pack.Reader) api.Msg {
	m := api.Msg{Kind: r.Count(api.Took), From: r.Count(api.MaxNode), To: r.Count(api.MaxNode), Term: r.Num()}
	n := named(m.Kind)
	ahead, behind := numbers(&m, n)
	fill(r, ahead)
	if n.ok {
		m.Ok = r.Flag()
	}
	if n.entries {
		m.Entries = readEntries(r, m.Index)
	}
	fill(r, behind)
	if n.data {
		m.Data = r.Bytes()
	}
	if n.last {
		m.Last = r.Flag()
	}
	if n.conf {
		m.Conf = readConf(r)
	}
	return m
}

func fill(r *pack.Reader, ns []number) {
	for _, x := range ns {
		if x.named {
			*x.at = r.Num()
		}
	}
}

func readEntries(r *pack.Reader, index int64) []api.Entry {
	var es []api.Entry
	for range r.Count(api.MaxBatch) {
		index++
		es = append(es, api.Entry{Index: index, Term: r.Num(), Kind: r.Count(api.Change), Data: r.Bytes()})
	}
	return es
}

func readConf(r *pack.Reader) api.Conf {
	c, code := conf.Load(r.Bytes())
	if code != api.OK {
		r.Fail(api.ErrForm)
	}
	return c
}
