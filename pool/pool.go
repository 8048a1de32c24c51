// Package pool: pools: see doc/03-pool.md.
package pool

import (
	"slices"

	"parcelway/api"
	"parcelway/cidr"
	"parcelway/fresh"
	"parcelway/order"
	"parcelway/space"
)

// Open is b with a pool more that is in no other one.
func Open(b api.Book, id int, root api.Prefix, r api.Rule) (api.Book, api.Errno) {
	e := Check(b)
	switch {
	case e != api.OK:
	case !order.IsId(id) || cidr.Check(root) != api.OK:
		e = api.ErrRange
	case place(b, id) >= 0 || meetsTop(b.Pools, root):
		e = api.ErrThere
	default:
		e = addError(b, root, r)
	}
	if e != api.OK {
		return api.Book{}, e
	}
	return withPool(b, api.Pool{Id: id, Root: root, Rule: r}), api.OK
}

// Nest is b with a pool more that is a part of the pool up; and that part.
func Nest(b api.Book, id, up, size int, r api.Rule) (api.Book, api.Prefix, api.Errno) {
	root, e := nestRoot(b, id, up, size)
	if e == api.OK {
		e = addError(b, root, r)
	}
	if e != api.OK {
		return api.Book{}, api.Prefix{}, e
	}
	n := withPool(b, api.Pool{Id: id, Up: up, Root: root, Rule: r})
	addLease(&n.Pools[place(n, up)], api.Lease{At: root, Kind: api.ForPool, Owner: id})
	return n, root, api.OK
}

// nestRoot is the part of the pool up that a pool id can have; or the first error of those that come ahead of addError's.
func nestRoot(b api.Book, id, up, size int) (api.Prefix, api.Errno) {
	if e := Check(b); e != api.OK {
		return api.Prefix{}, e
	}
	i := place(b, up)
	switch {
	case !order.IsId(id):
		return api.Prefix{}, api.ErrRange
	case i < 0:
		return api.Prefix{}, api.ErrNone
	case place(b, id) >= 0:
		return api.Prefix{}, api.ErrThere
	}
	return fit(b.Pools[i], size)
}

// addError is the error that a pool with that root and rule has at last, nested or not.
func addError(b api.Book, root api.Prefix, r api.Rule) api.Errno {
	switch {
	case !ruleRight(r, root):
		return api.ErrForm
	case len(b.Pools) == api.MaxPools:
		return api.ErrMany
	}
	return api.OK
}

// fit is the part of that size that p can give.
func fit(p api.Pool, size int) (api.Prefix, api.Errno) {
	if size < p.Rule.Min || size > p.Rule.Max {
		return api.Prefix{}, api.ErrRule
	}
	at, ok, _ := space.Fit(spaceOf(p), size)
	if !ok || len(p.Leases) == api.MaxUsed {
		return api.Prefix{}, api.ErrFull
	}
	return at, api.OK
}

// Take is b with a part of the pool id leased to owner; and that part.
func Take(b api.Book, id, size, owner int) (api.Book, api.Prefix, api.Errno) {
	if e := Check(b); e != api.OK {
		return api.Book{}, api.Prefix{}, e
	}
	i := place(b, id)
	switch {
	case i < 0:
		return api.Book{}, api.Prefix{}, api.ErrNone
	case !order.IsId(owner):
		return api.Book{}, api.Prefix{}, api.ErrRange
	}
	if size == 0 {
		size = b.Pools[i].Rule.Usual
	}
	at, e := fit(b.Pools[i], size)
	if e != api.OK {
		return api.Book{}, api.Prefix{}, e
	}
	n := fresh.Book(b)
	addLease(&n.Pools[i], api.Lease{At: at, Kind: api.ForUser, Owner: owner})
	return n, at, api.OK
}

// Give is b with the part p of the pool id, that a user had, cooling.
func Give(b api.Book, id int, p api.Prefix) (api.Book, api.Errno) {
	if e := Check(b); e != api.OK {
		return api.Book{}, e
	}
	i := place(b, id)
	if i < 0 {
		return api.Book{}, api.ErrNone
	}
	j := slices.IndexFunc(b.Pools[i].Leases, func(l api.Lease) bool { return l.Kind == api.ForUser && l.At == p })
	if j < 0 {
		return api.Book{}, api.ErrNone
	}
	n := fresh.Book(b)
	cool(&n.Pools[i], j, n.Tick)
	return n, api.OK
}

// Close is b without the pool id, whose part of the pool above it is cooling.
func Close(b api.Book, id int) (api.Book, api.Errno) {
	if e := Check(b); e != api.OK {
		return api.Book{}, e
	}
	i := place(b, id)
	if i < 0 {
		return api.Book{}, api.ErrNone
	}
	if slices.ContainsFunc(b.Pools[i].Leases, func(l api.Lease) bool { return l.Kind != api.Cooling }) {
		return api.Book{}, api.ErrBusy
	}
	n := fresh.Book(b)
	if k := place(n, n.Pools[i].Up); k >= 0 {
		cool(&n.Pools[k], leaseFor(n.Pools[k], id), n.Tick)
	}
	n.Pools = slices.Delete(n.Pools, i, i+1)
	return n, api.OK
}

// Pass is b when n ticks more have gone by.
func Pass(b api.Book, n int) (api.Book, api.Errno) {
	if e := Check(b); e != api.OK {
		return api.Book{}, e
	}
	if n < 1 || n > api.MaxTick-b.Tick { // Tick + n could wrap round
		return api.Book{}, api.ErrRange
	}
	next := fresh.Book(b)
	next.Tick += n
	for i := range next.Pools {
		p := &next.Pools[i]
		p.Leases = slices.DeleteFunc(p.Leases, func(l api.Lease) bool { return l.Kind == api.Cooling && l.Until <= next.Tick })
	}
	return next, api.OK
}
