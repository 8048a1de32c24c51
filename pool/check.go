package pool

import (
	"slices"

	"parcelway/api"
	"parcelway/cidr"
	"parcelway/order"
	"parcelway/space"
)

// Check tells whether b is a right book.
func Check(b api.Book) api.Errno {
	switch {
	case len(b.Pools) > api.MaxPools:
		return api.ErrMany
	case b.Tick < 0 || b.Tick > api.MaxTick || !idsRise(b.Pools) || !topsApart(b.Pools):
		return api.ErrForm
	}
	for _, p := range b.Pools {
		if !poolRight(b, p) {
			return api.ErrForm
		}
	}
	return api.OK
}

// idsRise tells whether all Ids may be, and rise.
func idsRise(ps []api.Pool) bool {
	return order.Rise(ps, poolId) && !slices.ContainsFunc(ps, func(p api.Pool) bool { return !order.IsId(p.Id) })
}

// topsApart tells whether no two pools that are in no other one meet.
func topsApart(ps []api.Pool) bool {
	for i, p := range ps {
		if p.Up == 0 && meetsTop(ps[:i], p.Root) {
			return false
		}
	}
	return true
}

// meetsTop tells whether root meets that of a pool that is in no other one.
func meetsTop(ps []api.Pool, root api.Prefix) bool {
	return slices.ContainsFunc(ps, func(p api.Pool) bool { return p.Up == 0 && cidr.Meets(p.Root, root) })
}

// poolRight tells whether p is as a pool of b must be, but for what idsRise and topsApart tell.
func poolRight(b api.Book, p api.Pool) bool {
	if space.Check(spaceOf(p)) != api.OK || !ruleRight(p.Rule, p.Root) || !upRight(b, p) {
		return false
	}
	for _, l := range p.Leases {
		if !leaseRight(b, p.Id, l) {
			return false
		}
	}
	return true
}

// spaceOf is a pool's root, and what of it is not free.
func spaceOf(p api.Pool) api.Space {
	s := api.Space{Root: p.Root}
	for _, l := range p.Leases {
		s.Used = append(s.Used, l.At)
	}
	return s
}

// ruleRight tells whether r is right for root.
func ruleRight(r api.Rule, root api.Prefix) bool {
	return root.Len <= r.Min && r.Min <= r.Usual && r.Usual <= r.Max && r.Max <= api.Width &&
		r.Cool >= 0 && r.Cool <= api.MaxCool
}

// leaseRight tells whether l is as a lease of the pool id must be.
func leaseRight(b api.Book, id int, l api.Lease) bool {
	switch l.Kind {
	case api.ForUser:
		return order.IsId(l.Owner) && l.Until == 0
	case api.ForPool:
		i := place(b, l.Owner)
		return i >= 0 && b.Pools[i].Up == id && b.Pools[i].Root == l.At && l.Until == 0
	case api.Cooling:
		return l.Owner == 0 && l.Until > b.Tick && l.Until <= b.Tick+api.MaxCool
	}
	return false
}

// upRight tells whether p is in no other pool, or in one that has a lease for it; and whether the way up ends. Pools that are each in the next one, all of one root, have their leases, and yet each would be above itself.
func upRight(b api.Book, p api.Pool) bool {
	for range b.Pools {
		if p.Up == 0 {
			return true
		}
		i := place(b, p.Up)
		if i < 0 || leaseFor(b.Pools[i], p.Id) < 0 {
			return false
		}
		p = b.Pools[i]
	}
	return false
}
