package site

import (
	"parcelway/api"
	"parcelway/net"
	"parcelway/pool"
	"parcelway/vpc"
)

// run does c with s, which must be right, and a copy: with an Err nothing of it is promised.
func run(s *api.Site, c api.Cmd) (a api.Answer) {
	switch c.Op {
	case api.OpOpen:
		s.Book, a.Err = pool.Open(s.Book, c.A, c.At, c.Rule)
	case api.OpNest:
		s.Book, a.At, a.Err = pool.Nest(s.Book, c.A, c.B, c.C, c.Rule)
	case api.OpClose:
		s.Book, a.Err = pool.Close(s.Book, c.A)
	case api.OpTick:
		s.Book, a.Err = pool.Pass(s.Book, c.A)
	case api.OpTake:
		a.At, a.Err = take(s, c)
	case api.OpGive:
		a.Err = give(s, c)
	case api.OpMake:
		a.Err = newVpc(s, c)
	case api.OpGrow:
		a.At, a.Err = grow(s, c)
	case api.OpDrop:
		a.Err = drop(s, c)
	case api.OpSub, api.OpUnsub, api.OpFace, api.OpMore, api.OpUnface:
		a.N, a.Err = within(s, c)
	case api.OpJoin:
		s.Net, a.Err = net.Join(s.Net, c.A, c.B)
	case api.OpPart:
		s.Net, a.Err = net.Part(s.Net, c.A, c.B)
	default:
		a.Err = api.ErrKind
	}
	return a
}

// take leases a part to a user who is no network: a network's parts must be its ranges.
func take(s *api.Site, c api.Cmd) (at api.Prefix, e api.Errno) {
	if place(s.Net, c.C) >= 0 {
		return api.Prefix{}, api.ErrThere
	}
	s.Book, at, e = pool.Take(s.Book, c.A, c.B, c.C)
	return at, e
}

// give takes a part back, unless a network still has it.
func give(s *api.Site, c api.Cmd) (e api.Errno) {
	if place(s.Net, holdersOf(s.Book)[part{c.A, c.At}]) >= 0 {
		return api.ErrBusy
	}
	s.Book, e = pool.Give(s.Book, c.A, c.At)
	return e
}

// newVpc makes a network, unless a user has its Id already, whose parts would not be its ranges.
func newVpc(s *api.Site, c api.Cmd) (e api.Errno) {
	if holdersOf(s.Book).anyBy(c.A) {
		return api.ErrThere
	}
	s.Net, e = net.Make(s.Net, c.A)
	return e
}

// grow leases a part to a network, as a range of it.
func grow(s *api.Site, c api.Cmd) (at api.Prefix, e api.Errno) {
	if place(s.Net, c.A) < 0 {
		return api.Prefix{}, api.ErrNone
	}
	s.Book, at, e = pool.Take(s.Book, c.B, c.C, c.A)
	if e != api.OK {
		return api.Prefix{}, e
	}
	s.Net, e = net.Grow(s.Net, c.A, api.Range{At: at, Pool: c.B})
	return at, e
}

// drop takes a range of a network back.
func drop(s *api.Site, c api.Cmd) api.Errno {
	i := place(s.Net, c.A)
	if i < 0 {
		return api.ErrNone
	}
	v, r, e := vpc.Drop(s.Net.Vpcs[i], c.At)
	if e != api.OK {
		return e
	}
	s.Net.Vpcs[i] = v
	s.Book, e = pool.Give(s.Book, r.Pool, r.At)
	return e
}

// within does what is done inside of one network; the number is the address that a face was given, if it was.
func within(s *api.Site, c api.Cmd) (n int, e api.Errno) {
	i := place(s.Net, c.A)
	if i < 0 {
		return 0, api.ErrNone
	}
	v := &s.Net.Vpcs[i]
	switch c.Op {
	case api.OpSub:
		*v, e = vpc.Sub(*v, c.B, c.At)
	case api.OpUnsub:
		*v, e = vpc.Unsub(*v, c.B)
	case api.OpFace:
		*v, n, e = vpc.Face(*v, c.B, c.C)
	case api.OpMore:
		*v, n, e = vpc.More(*v, c.B, c.C)
	default:
		*v, e = vpc.Unface(*v, c.B, c.C)
	}
	return n, e
}
