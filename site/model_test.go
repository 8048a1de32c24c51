package site_test

import (
	"slices"

	"parcelway/api"
	"parcelway/net"
	"parcelway/pool"
	"parcelway/vpc"
)

// model is what Do must answer of a right site: the document's table, by the calls of the layers that it names.
func model(s api.Site, c api.Cmd) (api.Site, api.Answer) {
	n, a := s, api.Answer{Err: barred(s, c)}
	if a.Err != api.OK {
		return s, a
	}
	var v api.Vpc
	var r api.Range
	if w := vpcOf(s, c.A); w != nil {
		v = *w
	}
	switch c.Op {
	case api.OpOpen:
		n.Book, a.Err = pool.Open(s.Book, c.A, c.At, c.Rule)
	case api.OpNest:
		n.Book, a.At, a.Err = pool.Nest(s.Book, c.A, c.B, c.C, c.Rule)
	case api.OpClose:
		n.Book, a.Err = pool.Close(s.Book, c.A)
	case api.OpTick:
		n.Book, a.Err = pool.Pass(s.Book, c.A)
	case api.OpTake:
		n.Book, a.At, a.Err = pool.Take(s.Book, c.A, c.B, c.C)
	case api.OpGive:
		n.Book, a.Err = pool.Give(s.Book, c.A, c.At)
	case api.OpMake:
		n.Net, a.Err = net.Make(s.Net, c.A)
	case api.OpGrow:
		if n.Book, a.At, a.Err = pool.Take(s.Book, c.B, c.C, c.A); a.Err == api.OK {
			n.Net, a.Err = net.Grow(s.Net, c.A, api.Range{At: a.At, Pool: c.B})
		}
	case api.OpDrop:
		if v, r, a.Err = vpc.Drop(v, c.At); a.Err == api.OK {
			n.Book, a.Err = pool.Give(s.Book, r.Pool, r.At)
		}
	case api.OpSub:
		v, a.Err = vpc.Sub(v, c.B, c.At)
	case api.OpUnsub:
		v, a.Err = vpc.Unsub(v, c.B)
	case api.OpFace:
		v, a.N, a.Err = vpc.Face(v, c.B, c.C)
	case api.OpMore:
		v, a.N, a.Err = vpc.More(v, c.B, c.C)
	case api.OpUnface:
		v, a.Err = vpc.Unface(v, c.B, c.C)
	case api.OpJoin:
		n.Net, a.Err = net.Join(s.Net, c.A, c.B)
	case api.OpPart:
		n.Net, a.Err = net.Part(s.Net, c.A, c.B)
	}
	if a.Err != api.OK {
		return s, api.Answer{Err: a.Err}
	}
	if c.Op == api.OpDrop || inside(c.Op) {
		n.Net.Vpcs = slices.Clone(n.Net.Vpcs)
		*vpcOf(n, c.A) = v
	}
	return n, a
}

// inside tells whether an operation is done inside of one network.
func inside(op int) bool { return op >= api.OpSub && op <= api.OpUnface }

// barred is the error that the table names first.
func barred(s api.Site, c api.Cmd) api.Errno {
	switch {
	case c.Op < api.OpOpen || c.Op > api.OpPart:
		return api.ErrKind
	case c.Op == api.OpTake && vpcOf(s, c.C) != nil:
		return api.ErrThere
	case c.Op == api.OpGive && slices.ContainsFunc(s.Net.Vpcs, func(v api.Vpc) bool { return slices.Contains(v.Ranges, ranged(c.At, c.A)) }):
		return api.ErrBusy
	case c.Op == api.OpMake && slices.ContainsFunc(s.Book.Pools, func(p api.Pool) bool {
		return slices.ContainsFunc(p.Leases, func(l api.Lease) bool { return l.Kind == api.ForUser && l.Owner == c.A })
	}):
		return api.ErrThere
	case (c.Op == api.OpGrow || c.Op == api.OpDrop || inside(c.Op)) && vpcOf(s, c.A) == nil:
		return api.ErrNone
	}
	return api.OK
}

// vpcOf is the network id of s.
func vpcOf(s api.Site, id int) *api.Vpc {
	for i := range s.Net.Vpcs {
		if s.Net.Vpcs[i].Id == id {
			return &s.Net.Vpcs[i]
		}
	}
	return nil
}
