package site_test

import (
	"fmt"
	"slices"

	"parcelway/api"
)

// of is a prefix.
func of(at, size int) api.Prefix { return api.Prefix{At: at, Len: size} }

// user, nested and cooling are leases.
func user(p api.Prefix, owner int) api.Lease {
	return api.Lease{At: p, Kind: api.ForUser, Owner: owner}
}

func nested(p api.Prefix, id int) api.Lease {
	return api.Lease{At: p, Kind: api.ForPool, Owner: id}
}

func cooling(p api.Prefix, until int) api.Lease {
	return api.Lease{At: p, Kind: api.Cooling, Until: until}
}

// ranged is a range.
func ranged(p api.Prefix, pool int) api.Range { return api.Range{At: p, Pool: pool} }

// wide is a rule that bars little; it is right for a root of Len 8 or less.
func wide(cool int) api.Rule { return api.Rule{Min: 8, Max: 16, Usual: 12, Cool: cool} }

// base is a right site: the pools 1, 2 and 4, which is in 1; the networks 1, 2, 5 and 65536, of which 1 and 2 are joined; the users 3 and 20.
func base() api.Site {
	return api.Site{
		Book: api.Book{Tick: 100, Pools: []api.Pool{
			{Id: 1, Root: of(256, 8), Rule: wide(3), Leases: []api.Lease{
				nested(of(256, 10), 4), user(of(320, 12), 20), user(of(336, 12), 1), user(of(352, 12), 2), cooling(of(368, 12), 102)}},
			{Id: 2, Root: of(512, 8), Rule: wide(0), Leases: []api.Lease{user(of(512, 10), 5), user(of(576, 16), 3)}},
			{Id: 4, Up: 1, Root: of(256, 10), Rule: api.Rule{Min: 10, Max: 14, Usual: 13, Cool: 5}, Leases: []api.Lease{
				user(of(256, 13), 1), user(of(264, 13), 20)}},
		}},
		Net: api.Net{
			Vpcs: []api.Vpc{
				{Id: 1, Ranges: []api.Range{ranged(of(256, 13), 4), ranged(of(336, 12), 1)}, Subs: []api.Sub{
					{Id: 1, At: of(336, 13), Faces: []api.Face{{Id: 1, Addrs: []int{337, 340}}, {Id: 3, Addrs: []int{338}}}},
					{Id: 2, At: of(344, 14)}}},
				{Id: 2, Ranges: []api.Range{ranged(of(352, 12), 1)}, Subs: []api.Sub{
					{Id: 7, At: of(352, 14), Faces: []api.Face{{Id: 1, Addrs: []int{353}}, {Id: 2, Addrs: []int{354}}}}}},
				{Id: 5, Ranges: []api.Range{ranged(of(512, 10), 2)}},
				{Id: 65536},
			},
			Links: []api.Link{{A: 1, B: 2}},
		}}
}

// with is base, changed.
func with(turn func(s *api.Site)) api.Site {
	s := base()
	turn(&s)
	return s
}

// same tells whether two things are the same, however their empty lists are told.
func same[T any](a, b T) bool { return fmt.Sprint(a) == fmt.Sprint(b) }

// leases are those of the pool with that place in the book.
func leases(s *api.Site, i int) *[]api.Lease { return &s.Book.Pools[i].Leases }

// without is l without its element i, in memory of its own.
func without[T any](l []T, i int) []T { return slices.Concat(l[:i], l[i+1:]) }

// crowded is a site with as many pools, networks and links as there may be, and in one network as many ranges, subnets, faces and addresses; in the last pool as many leases.
func crowded() api.Site {
	var s api.Site
	for i := 1; i <= 8; i++ {
		s.Book.Pools = append(s.Book.Pools, api.Pool{Id: i, Root: of(i<<8, 8), Rule: wide(1)})
	}
	for i := 1; i <= 6; i++ {
		s.Net.Vpcs = append(s.Net.Vpcs, api.Vpc{Id: i})
		for j := i + 1; j <= 6 && len(s.Net.Links) < 12; j++ {
			s.Net.Links = append(s.Net.Links, api.Link{A: i, B: j})
		}
	}
	v := &s.Net.Vpcs[0]
	for i := range 4 {
		p := of(256+i*64, 10)
		s.Book.Pools[0].Leases = append(s.Book.Pools[0].Leases, user(p, 1))
		v.Ranges = append(v.Ranges, ranged(p, 1))
	}
	for i := range 6 {
		v.Subs = append(v.Subs, api.Sub{Id: 1 + i, At: of(256+i*8, 13)})
	}
	v.Subs[0].At = of(320, 10)
	for i := range 8 {
		v.Subs[0].Faces = append(v.Subs[0].Faces, api.Face{Id: 1 + i, Addrs: []int{321 + i}})
	}
	v.Subs[0].Faces[7].Addrs = []int{328, 329, 330, 331}
	for i := range 32 {
		s.Book.Pools[7].Leases = append(s.Book.Pools[7].Leases, user(of(2048+i, 16), 100))
	}
	return s
}
