package pool

import (
	"slices"

	"parcelway/api"
	"parcelway/fresh"
	"parcelway/order"
)

// place is where in b the pool id is; less than 0, if it is not there.
func place(b api.Book, id int) int {
	return slices.IndexFunc(b.Pools, func(p api.Pool) bool { return p.Id == id })
}

// leaseFor is where in p the lease for the pool id is; less than 0, if it is not there.
func leaseFor(p api.Pool, id int) int {
	return slices.IndexFunc(p.Leases, func(l api.Lease) bool { return l.Kind == api.ForPool && l.Owner == id })
}

// withPool is a copy of b with p, too, where its Id belongs.
func withPool(b api.Book, p api.Pool) api.Book {
	n := fresh.Book(b)
	n.Pools = order.Put(n.Pools, p, poolId)
	return n
}

// addLease puts l into p, where its prefix belongs; p must be of a copy.
func addLease(p *api.Pool, l api.Lease) { p.Leases = order.Put(p.Leases, l, leaseAt) }

// The numbers by which a book's lists rise.
func poolId(p api.Pool) int   { return p.Id }
func leaseAt(l api.Lease) int { return l.At.At }

// cool makes lease i of p one that cools from tick on, or takes it away, if nothing cools there: none may be Until the tick that is now. p must be of a copy.
func cool(p *api.Pool, i, tick int) {
	if p.Rule.Cool == 0 {
		p.Leases = slices.Delete(p.Leases, i, i+1)
		return
	}
	p.Leases[i] = api.Lease{At: p.Leases[i].At, Kind: api.Cooling, Until: tick + p.Rule.Cool}
}
