// Package fresh: copies in memory of their own, all the way down, so that they can be changed and handed out.
package fresh

import (
	"slices"

	"parcelway/api"
)

// Book is a copy of b.
func Book(b api.Book) api.Book {
	n := api.Book{Tick: b.Tick, Pools: slices.Clone(b.Pools)}
	for i := range n.Pools {
		n.Pools[i].Leases = slices.Clone(n.Pools[i].Leases)
	}
	return n
}

// Vpc is a copy of v.
func Vpc(v api.Vpc) api.Vpc {
	n := api.Vpc{Id: v.Id, Ranges: slices.Clone(v.Ranges), Subs: slices.Clone(v.Subs)}
	for i := range n.Subs {
		n.Subs[i].Faces = faces(n.Subs[i].Faces)
	}
	return n
}

// faces is a copy of l.
func faces(l []api.Face) []api.Face {
	n := slices.Clone(l)
	for i := range n {
		n[i].Addrs = slices.Clone(n[i].Addrs)
	}
	return n
}

// Net is a copy of n.
func Net(n api.Net) api.Net {
	m := api.Net{Vpcs: slices.Clone(n.Vpcs), Links: slices.Clone(n.Links)}
	for i := range m.Vpcs {
		m.Vpcs[i] = Vpc(m.Vpcs[i])
	}
	return m
}

// Site is a copy of s.
func Site(s api.Site) api.Site { return api.Site{Book: Book(s.Book), Net: Net(s.Net)} }
