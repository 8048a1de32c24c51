package net_test

import (
	"math"
	"math/rand"
	"slices"
	"testing"

	"parcelway/api"
	"parcelway/net"
)

// clashing is a net of a row of networks, each linked with the next one, the first and the last of which have an address in common.
func clashing(n int) api.Net {
	m := joined(n, 0)
	for a := 1; a < n; a++ {
		m.Links = append(m.Links, link(a, a+1))
	}
	m.Vpcs[n-1].Ranges = []api.Range{ranged(257, 16)}
	return m
}

// star is a net of six networks, one of which is linked with all others.
func star(middle int) api.Net {
	m := joined(6, 0)
	for a := 1; a <= 6; a++ {
		for b := a + 1; b <= 6; b++ {
			if a == middle || b == middle {
				m.Links = append(m.Links, link(a, b))
			}
		}
	}
	return m
}

// clashingStar is a star whose second and fifth network have an address in common.
func clashingStar(middle int) api.Net {
	m := star(middle)
	m.Vpcs[4].Ranges = []api.Range{ranged(512, 16)}
	return m
}

var rightNets = map[string]api.Net{
	"nothing":                {},
	"one network":            {Vpcs: []api.Vpc{vpc(65536)}},
	"base":                   base(),
	"six networks":           joined(6, 0),
	"twelve links":           joined(6, 12),
	"all links of five":      joined(5, 10),
	"a ring":                 with(func(n *api.Net) { n.Links = []api.Link{link(1, 2), link(1, 4), link(2, 4)} }),
	"a star of 1":            star(1),
	"a star of 4":            star(4),
	"a star of 6":            star(6),
	"a clash of two groups":  {Vpcs: []api.Vpc{vpc(1, ranged(0, 0)), vpc(2, ranged(0, 0))}},
	"no link, and no clash":  with(func(n *api.Net) { n.Links = nil }),
	"a clash, a link beside": {Vpcs: []api.Vpc{vpc(1, ranged(0, 0)), vpc(2, ranged(0, 0)), vpc(3)}, Links: []api.Link{link(2, 3)}},
	"side by side":           {Vpcs: []api.Vpc{vpc(1, ranged(256, 8)), vpc(2, ranged(512, 8), ranged(1024, 8))}, Links: []api.Link{link(1, 2)}},
}

func TestE1Right(t *testing.T) {
	for name, n := range rightNets {
		if e := net.Check(n); e != api.OK || check(n) != api.OK {
			t.Errorf("%s: Check %d", name, e)
		}
	}
}

// links is base with these links.
func links(l ...api.Link) api.Net { return with(func(n *api.Net) { n.Links = l }) }

// last is base with that network at its end.
func last(v api.Vpc) api.Net { return with(func(n *api.Net) { n.Vpcs[4], n.Links = v, nil }) }

var wrongForms = map[string]api.Net{
	"Id 0":                       {Vpcs: make([]api.Vpc, 1)},
	"Id too great":               last(vpc(65537)),
	"Ids the same":               last(vpc(5)),
	"Ids fall":                   last(vpc(3)),
	"a wrong range":              last(vpc(65536, ranged(1, 8))),
	"ranges of one that meet":    last(vpc(65536, ranged(0, 0), ranged(5, 16))),
	"pool 0":                     last(vpc(65536, api.Range{})),
	"five ranges":                last(vpc(65536, ranged(0, 16), ranged(1, 16), ranged(2, 16), ranged(3, 16), ranged(4, 16))),
	"seven subnets":              last(api.Vpc{Id: 65536, Subs: make([]api.Sub, 7)}),
	"nine faces":                 last(api.Vpc{Id: 65536, Subs: []api.Sub{{Faces: make([]api.Face, 9)}}}),
	"five addresses":             last(api.Vpc{Id: 65536, Subs: []api.Sub{{Faces: []api.Face{{Addrs: make([]int, 5)}}}}}),
	"wrong in the first":         with(func(n *api.Net) { n.Vpcs[0].Id = 0; n.Links = nil }),
	"an address of two faces":    with(func(n *api.Net) { n.Vpcs[1].Subs[0].Faces[1].Addrs[0] = 323 }),
	"a link the wrong way":       links(link(2, 1)),
	"a link of one":              links(link(4, 4)),
	"a link of none, A":          links(link(3, 4)),
	"a link of none, B":          links(link(4, 6)),
	"a link of 0":                links(link(0, 1)),
	"a link below 0":             links(link(math.MinInt, 1)),
	"a link too great":           links(link(1, math.MaxInt)),
	"a link of nothing":          {Links: []api.Link{link(1, 2)}},
	"links the same":             links(link(1, 2), link(1, 2)),
	"links fall by A":            links(link(2, 4), link(1, 2)),
	"links fall by B":            links(link(1, 4), link(1, 2)),
	"the last two the same":      links(link(1, 2), link(2, 4), link(2, 4)),
	"the last one of none":       links(link(1, 2), link(2, 4), link(5, 6)),
	"two that meet":              clashing(2),
	"two that meet by one":       clashing(3),
	"two that meet by four":      clashing(6),
	"two that meet in a star":    clashingStar(6),
	"two of a star of 1":         clashingStar(1),
	"two of a star of 3":         clashingStar(3),
	"the same range":             {Vpcs: []api.Vpc{vpc(1, ranged(0, 0)), vpc(2, ranged(0, 0))}, Links: []api.Link{link(1, 2)}},
	"the last ranges":            {Vpcs: []api.Vpc{vpc(1, ranged(0, 16), ranged(9, 16)), vpc(2, ranged(1, 16), ranged(8, 15))}, Links: []api.Link{link(1, 2)}},
	"groups that a link joins":   links(link(1, 2), link(2, 4), link(4, 65536), link(5, 65536)),
	"five ranges, far in a list": {Vpcs: []api.Vpc{vpc(1), {Id: 2, Ranges: make([]api.Range, 5)}}},
}

var wrongMany = map[string]api.Net{
	"seven networks":               joined(7, 0),
	"seven networks, of nothing":   {Vpcs: make([]api.Vpc, 7)},
	"13 links":                     joined(6, 13),
	"13 links, of nothing":         {Links: make([]api.Link, 13)},
	"seven networks, 13 links":     joined(7, 13),
	"13 links, a network is wrong": {Vpcs: make([]api.Vpc, 1), Links: make([]api.Link, 13)},
	"very many":                    {Vpcs: make([]api.Vpc, 1<<16), Links: make([]api.Link, 1<<16)},
}

// tell holds the error of each call against want, whatever else is wrong.
func tell(t *testing.T, name string, n api.Net, want api.Errno) {
	t.Helper()
	if e := net.Check(n); e != want || check(n) != want {
		t.Errorf("%s: Check %d, not %d", name, e, want)
	}
	for _, s := range []step{{}, {a: 1, b: 2, r: ranged(2048, 8)}, {a: 4, b: 1, r: ranged(256, 16)}, {a: math.MaxInt, b: math.MinInt, r: ranged(5, 5)}} {
		for s.what = range 5 {
			if m, ids, e := s.do(n); !none(m) || len(ids) != 0 || e != want {
				t.Errorf("%s: %+v: %v %v %d, not %d", name, s, m, ids, e, want)
			}
		}
	}
}

func TestE1Wrong(t *testing.T) {
	for name, n := range wrongForms {
		tell(t, name, n, api.ErrForm)
	}
	for name, n := range wrongMany {
		tell(t, name, n, api.ErrMany)
	}
}

// TestE1Near: nets drawn so that many are right, and many are wrong by a link or a range.
func TestE1Near(t *testing.T) {
	r := rand.New(rand.NewSource(1))
	seen := map[api.Errno]int{}
	for range 40000 {
		var n api.Net
		for id := 1; id <= 6; id++ {
			if r.Intn(4) > 0 {
				v := vpc(id)
				for at := 256; at < 264; at++ {
					if len(v.Ranges) < 4 && r.Intn(9) == 0 {
						v.Ranges = append(v.Ranges, ranged(at, 16))
					}
				}
				n.Vpcs = append(n.Vpcs, v)
			}
		}
		for a := 1; a <= 6; a++ {
			for b := a + 1; b <= 6; b++ {
				there := func(id int) bool { return slices.ContainsFunc(n.Vpcs, func(v api.Vpc) bool { return v.Id == id }) }
				if (r.Intn(60) == 0 || there(a) && there(b)) && r.Intn(5) == 0 {
					n.Links = append(n.Links, link(a, b))
				}
			}
		}
		if len(n.Links) > 1 && r.Intn(10) == 0 {
			i, j := r.Intn(len(n.Links)), r.Intn(len(n.Links))
			n.Links[i] = n.Links[j]
		}
		want := check(n)
		seen[want]++
		if e := net.Check(n); e != want {
			t.Fatalf("Check(%v) is %d, not %d", n, e, want)
		}
		for _, v := range n.Vpcs {
			ids, e := net.Group(n, v.Id)
			g := reach(n.Links, v.Id)
			if e != want || want == api.OK && (len(ids) != len(g) || !slices.IsSorted(ids) || slices.ContainsFunc(ids, func(id int) bool { return !g[id] })) {
				t.Fatalf("Group(%v, %d) is %v %d", n, v.Id, ids, e)
			}
		}
	}
	if seen[api.OK] < 5000 || seen[api.ErrForm] < 5000 {
		t.Errorf("too few of a kind: %v", seen)
	}
}
