package net

import (
	"slices"

	"parcelway/api"
	"parcelway/cidr"
	"parcelway/order"
	"parcelway/vpc"
)

// Check tells whether n is a right net.
func Check(n api.Net) api.Errno {
	switch {
	case len(n.Vpcs) > api.MaxVpcs || len(n.Links) > api.MaxLinks:
		return api.ErrMany
	case !vpcsRight(n.Vpcs) || !linksRight(n) || !apart(n):
		return api.ErrForm
	}
	return api.OK
}

// vpcsRight tells whether all of these networks are right, and rise.
func vpcsRight(l []api.Vpc) bool {
	return order.Rise(l, vpcId) && !slices.ContainsFunc(l, func(v api.Vpc) bool { return vpc.Check(v) != api.OK })
}

// linksRight tells whether n's links are as they must be.
func linksRight(n api.Net) bool {
	return order.Rise(n.Links, linkA, linkB) && !slices.ContainsFunc(n.Links, func(l api.Link) bool {
		return l.A >= l.B || place(n, l.A) < 0 || place(n, l.B) < 0
	})
}

// apart tells whether no two networks of one group have an address in common.
func apart(n api.Net) bool {
	g := groupsOf(n)
	for i, v := range n.Vpcs {
		for _, w := range n.Vpcs[:i] {
			if g.head(v.Id) == g.head(w.Id) && meet(v, w) {
				return false
			}
		}
	}
	return true
}

// meet tells whether there is an address that both networks have.
func meet(v, w api.Vpc) bool {
	return slices.ContainsFunc(v.Ranges, func(r api.Range) bool {
		return slices.ContainsFunc(w.Ranges, func(s api.Range) bool { return cidr.Meets(r.At, s.At) })
	})
}

// place is where in n the network id is; less than 0, if it is not there.
func place(n api.Net, id int) int {
	return slices.IndexFunc(n.Vpcs, func(v api.Vpc) bool { return v.Id == id })
}

// The numbers by which a net's lists rise.
func vpcId(v api.Vpc) int  { return v.Id }
func linkA(l api.Link) int { return l.A }
func linkB(l api.Link) int { return l.B }
