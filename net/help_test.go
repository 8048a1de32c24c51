package net_test

import (
	"slices"

	"parcelway/api"
)

// of is a prefix.
func of(at, size int) api.Prefix { return api.Prefix{At: at, Len: size} }

// ranged is a range of the pool 7.
func ranged(at, size int) api.Range { return api.Range{At: of(at, size), Pool: 7} }

// vpc is a network with these ranges.
func vpc(id int, l ...api.Range) api.Vpc { return api.Vpc{Id: id, Ranges: l} }

// link is a link.
func link(a, b int) api.Link { return api.Link{A: a, B: b} }

// base is a right net with the groups 1, 2, 4 and 5, 65536; 5 has a part of what 1 has.
func base() api.Net {
	two := vpc(2, ranged(320, 10), ranged(512, 13))
	two.Subs = []api.Sub{
		{Id: 1, At: of(320, 13), Faces: []api.Face{{Id: 1, Addrs: []int{321, 323}}, {Id: 2, Addrs: []int{322}}}},
		{Id: 2, At: of(512, 13)}}
	return api.Net{
		Vpcs:  []api.Vpc{vpc(1, ranged(256, 10)), two, vpc(4), vpc(5, ranged(256, 12), ranged(1024, 8)), vpc(65536, ranged(768, 9))},
		Links: []api.Link{link(1, 2), link(2, 4), link(5, 65536)}}
}

// with is base, changed.
func with(turn func(n *api.Net)) api.Net {
	n := base()
	turn(&n)
	return n
}

// joined is a net of n networks, of one range each, with the first k of the links that there can be.
func joined(n, k int) api.Net {
	var m api.Net
	for a := 1; a <= n; a++ {
		m.Vpcs = append(m.Vpcs, vpc(a, ranged(256*a, 8)))
		for b := a + 1; b <= n && len(m.Links) < k; b++ {
			m.Links = append(m.Links, link(a, b))
		}
	}
	return m
}

// same tells whether two nets are the same.
func same(n, m api.Net) bool {
	return slices.Equal(n.Links, m.Links) && slices.EqualFunc(n.Vpcs, m.Vpcs, sameVpc)
}

func sameVpc(v, w api.Vpc) bool {
	return v.Id == w.Id && slices.Equal(v.Ranges, w.Ranges) && slices.EqualFunc(v.Subs, w.Subs, func(s, t api.Sub) bool {
		return s.Id == t.Id && s.At == t.At && slices.EqualFunc(s.Faces, t.Faces, func(f, g api.Face) bool {
			return f.Id == g.Id && slices.Equal(f.Addrs, g.Addrs)
		})
	})
}

// none tells whether n is an empty net: what comes with an error.
func none(n api.Net) bool { return same(n, api.Net{}) }
