package conf

import (
	"quillet/api"
	"quillet/pack"
)

// Bytes are a configuration's bytes.
func Bytes(c api.Conf) ([]byte, api.Errno) {
	if !Right(c) {
		return nil, api.ErrArg
	}
	var vs []pack.Val
	for _, members := range [][]int{c.Voters, c.Learners} {
		vs = append(vs, num(len(members)))
		for _, n := range members {
			vs = append(vs, num(n))
		}
	}
	return pack.Put(vs)
}

func num(n int) pack.Val { return pack.Val{Kind: pack.Num, N: int64(n)} }

// Load is the configuration of bytes.
func Load(b []byte) (api.Conf, api.Errno) {
	var c api.Conf
	code := pack.Read(b, func(r *pack.Reader) {
		c.Voters, c.Learners = readMembers(r), readMembers(r)
		if !Right(c) {
			r.Fail(api.ErrForm)
		}
	})
	if code != api.OK {
		return api.Conf{}, code
	}
	return c, api.OK
}

func readMembers(r *pack.Reader) []int {
	var members []int
	for range r.Count(api.MaxNode) {
		// As a count a number is never too great for an int.
		members = append(members, r.Count(api.MaxNode))
	}
	return members
}
