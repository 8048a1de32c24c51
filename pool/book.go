package pool

import (
	"slices"

	"parcelway/api"
)

// place is where in b the pool id is; less than 0, if it is not there.
func place(b api.Book, id int) int {
	return slices.IndexFunc(b.Pools, func(p api.Pool) bool { return p.Id == id })
}

// leaseFor is where in p the lease for the pool id is; less than 0, if it is not there.
func leaseFor(p api.Pool, id int) int {
	return slices.IndexFunc(p.Leases, func(l api.Lease) bool { return l.Kind == api.ForPool && l.Owner == id })
}

// copied is b in memory of its own, so that the copy can be changed.
func copied(b api.Book) api.Book {
	n := api.Book{Tick: b.Tick, Pools: slices.Clone(b.Pools)}
	for i := range n.Pools {
		n.Pools[i].Leases = slices.Clone(n.Pools[i].Leases)
	}
	return n
}

// withPool is a copy of b with p, too, where its Id belongs.
func withPool(b api.Book, p api.Pool) api.Book {
	n := copied(b)
	i := slices.IndexFunc(n.Pools, func(q api.Pool) bool { return q.Id > p.Id })
	if i < 0 {
		i = len(n.Pools)
	}
	n.Pools = slices.Insert(n.Pools, i, p)
	return n
}

// addLease puts l into p, where its prefix belongs; p must be of a copy.
func addLease(p *api.Pool, l api.Lease) {
	i := slices.IndexFunc(p.Leases, func(m api.Lease) bool { return m.At.At > l.At.At })
	if i < 0 {
		i = len(p.Leases)
	}
	p.Leases = slices.Insert(p.Leases, i, l)
}

// cool makes lease i of p one that cools from tick on, or takes it away, if nothing cools there: none may be Until the tick that is now. p must be of a copy.
func cool(p *api.Pool, i, tick int) {
	if p.Rule.Cool == 0 {
		p.Leases = slices.Delete(p.Leases, i, i+1)
		return
	}
	p.Leases[i] = api.Lease{At: p.Leases[i].At, Kind: api.Cooling, Until: tick + p.Rule.Cool}
}
