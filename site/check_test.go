package site_test

import (
	"math"
	"math/rand"
	"slices"
	"testing"

	"parcelway/api"
	"parcelway/net"
	"parcelway/pool"
	"parcelway/site"
)

// twoOfOnePrefix is base with a network that has all of the pool 4, whose root is a lease of the pool 1, too.
func twoOfOnePrefix(pool int) api.Site {
	return with(func(s *api.Site) {
		*leases(s, 2) = []api.Lease{user(of(256, 10), 65536)}
		s.Net.Vpcs[0].Ranges = s.Net.Vpcs[0].Ranges[1:]
		s.Net.Vpcs[3].Ranges = []api.Range{ranged(of(256, 10), pool)}
	})
}

func TestG1Right(t *testing.T) {
	for name, s := range map[string]api.Site{
		"nothing":       {},
		"base":          base(),
		"crowded":       crowded(),
		"users alone":   with(func(s *api.Site) { s.Net = api.Net{} }),
		"a user's Id":   with(func(s *api.Site) { s.Net.Vpcs = without(s.Net.Vpcs, 2) }),
		"no ranges":     {Net: api.Net{Vpcs: []api.Vpc{{Id: 1}, {Id: 2}}}},
		"pools' Ids":    with(func(s *api.Site) { (*leases(s, 0))[1].Owner = 4 }),
		"nested prefix": twoOfOnePrefix(4),
		"lists not nil": {Book: api.Book{Pools: []api.Pool{}}, Net: api.Net{Vpcs: []api.Vpc{}, Links: []api.Link{}}},
	} {
		if e := site.Check(s); e != api.OK {
			t.Errorf("%s: %d", name, e)
		}
	}
}

var wrongSites = []struct {
	name string
	s    api.Site
	e    api.Errno
}{
	{"no lease", with(func(s *api.Site) { *leases(s, 0) = without(*leases(s, 0), 2) }), api.ErrForm},
	{"no lease in a nested pool", with(func(s *api.Site) { *leases(s, 2) = (*leases(s, 2))[1:] }), api.ErrForm},
	{"the lease of a user", with(func(s *api.Site) { (*leases(s, 0))[2].Owner = 20 }), api.ErrForm},
	{"the lease of another network", with(func(s *api.Site) { (*leases(s, 0))[2].Owner = 2 }), api.ErrForm},
	{"two leases the wrong way round", with(func(s *api.Site) { (*leases(s, 0))[2].Owner, (*leases(s, 0))[3].Owner = 2, 1 }), api.ErrForm},
	{"a lease that cools", with(func(s *api.Site) { (*leases(s, 0))[2] = cooling(of(336, 12), 101) }), api.ErrForm},
	{"a lease for a pool", with(func(s *api.Site) {
		s.Book.Pools = append(s.Book.Pools, api.Pool{Id: 5, Up: 2, Root: of(512, 10), Rule: api.Rule{Min: 10, Max: 16, Usual: 12}})
		(*leases(s, 1))[0] = nested(of(512, 10), 5)
	}), api.ErrForm},
	{"half of a lease", with(func(s *api.Site) { s.Net.Vpcs[2].Ranges[0].At.Len = 11 }), api.ErrForm},
	{"more than a lease", with(func(s *api.Site) { s.Net.Vpcs[2].Ranges[0].At.Len = 9 }), api.ErrForm},
	{"beside a lease", with(func(s *api.Site) { s.Net.Vpcs[2].Ranges[0].At.At = 640 }), api.ErrForm},
	{"another pool", with(func(s *api.Site) { s.Net.Vpcs[2].Ranges[0].Pool = 1 }), api.ErrForm},
	{"no such pool", with(func(s *api.Site) { s.Net.Vpcs[2].Ranges[0].Pool = 3 }), api.ErrForm},
	{"the pool above", with(func(s *api.Site) { s.Net.Vpcs[0].Ranges[0].Pool = 1 }), api.ErrForm},
	{"the pool above has that prefix", twoOfOnePrefix(1), api.ErrForm},
	{"two networks have it", with(func(s *api.Site) { s.Net.Vpcs[3].Ranges = []api.Range{ranged(of(512, 10), 2)} }), api.ErrForm},
	{"a range more", with(func(s *api.Site) { s.Net.Vpcs[3].Ranges = []api.Range{ranged(of(768, 8), 2)} }), api.ErrForm},
	{"a lease more", with(func(s *api.Site) { (*leases(s, 0))[1].Owner = 65536 }), api.ErrForm},
	{"a lease more in a nested pool", with(func(s *api.Site) { (*leases(s, 2))[1].Owner = 1 }), api.ErrForm},
	{"a range less", with(func(s *api.Site) { s.Net.Vpcs[2].Ranges = nil }), api.ErrForm},
	{"a user who became a network", with(func(s *api.Site) { s.Net.Vpcs = slices.Insert(s.Net.Vpcs, 2, api.Vpc{Id: 3}) }), api.ErrForm},
	{"the book", with(func(s *api.Site) { s.Book.Tick = -1 }), api.ErrForm},
	{"the book has too much", with(func(s *api.Site) { s.Book.Pools = make([]api.Pool, 9) }), api.ErrMany},
	{"the net", with(func(s *api.Site) { s.Net.Links[0].B = 3 }), api.ErrForm},
	{"the net has too much", with(func(s *api.Site) { s.Net.Vpcs = make([]api.Vpc, 7) }), api.ErrMany},
	{"the book, and the net has too much", with(func(s *api.Site) { s.Book.Tick, s.Net.Vpcs = -1, make([]api.Vpc, 7) }), api.ErrForm},
	{"the book has too much, and the net", with(func(s *api.Site) { s.Book.Pools, s.Net.Links[0].B = make([]api.Pool, 9), 3 }), api.ErrMany},
	{"the net has too much, and a lease more", with(func(s *api.Site) { (*leases(s, 0))[1].Owner, s.Net.Links = 65536, make([]api.Link, 13) }), api.ErrMany},
}

func TestG1Wrong(t *testing.T) {
	for _, c := range wrongSites {
		if e := site.Check(c.s); e != c.e {
			t.Errorf("%s: Check tells %d, not %d", c.name, e, c.e)
		}
		for op := range 18 {
			if s, a, e := site.Do(c.s, api.Cmd{Op: op, A: 1}); !same(s, api.Site{}) || a != (api.Answer{}) || e != c.e {
				t.Errorf("%s: Do of %d tells %v %v %d, not %d", c.name, op, s, a, e, c.e)
			}
		}
	}
}

// check is what Check must tell of s: each range is held against each lease, each lease against each range.
func check(s api.Site) api.Errno {
	if e := pool.Check(s.Book); e != api.OK {
		return e
	}
	if e := net.Check(s.Net); e != api.OK {
		return e
	}
	for _, v := range s.Net.Vpcs {
		for _, r := range v.Ranges {
			if !leased(s.Book, v.Id, r) {
				return api.ErrForm
			}
		}
	}
	for _, p := range s.Book.Pools {
		for _, l := range p.Leases {
			for _, v := range s.Net.Vpcs {
				if l.Kind == api.ForUser && l.Owner == v.Id && !slices.Contains(v.Ranges, ranged(l.At, p.Id)) {
					return api.ErrForm
				}
			}
		}
	}
	return api.OK
}

// leased tells whether r is leased to owner.
func leased(b api.Book, owner int, r api.Range) bool {
	return slices.ContainsFunc(b.Pools, func(p api.Pool) bool { return p.Id == r.Pool && slices.Contains(p.Leases, user(r.At, owner)) })
}

// TestG1Odd: sites that are wrong somewhere, or are not.
func TestG1Odd(t *testing.T) {
	r := rand.New(rand.NewSource(5))
	seen := map[api.Errno]int{}
	for range 60000 {
		s := oddSite(r)
		e := site.Check(s)
		if e != check(s) {
			t.Fatalf("Check tells %d, and must tell %d: %v", e, check(s), s)
		}
		seen[e]++
	}
	if seen[api.OK] < 1000 || seen[api.ErrForm] < 1000 || seen[api.ErrMany] < 100 {
		t.Errorf("too few of one kind: %v", seen)
	}
}

// odd is a number that is likely to be right somewhere, and wrong elsewhere.
func odd(r *rand.Rand) int {
	return pick(r, math.MinInt, -65536, -1, 0, 1, 1, 2, 2, 3, 4, 4, 5, 5, 7, 8, 10, 12, 13, 14, 16, 17, 20, 256, 264, 336, 352, 512, 65535, 65536, 65537, math.MaxInt)
}

// oddSite is base with some numbers changed.
func oddSite(r *rand.Rand) api.Site {
	s := base()
	if r.Intn(40) == 0 {
		s.Net.Vpcs = append(s.Net.Vpcs, make([]api.Vpc, r.Intn(4))...)
	}
	for range r.Intn(4) {
		p, v := &s.Book.Pools[r.Intn(3)], &s.Net.Vpcs[r.Intn(3)]
		l, g := &p.Leases[r.Intn(len(p.Leases))], &v.Ranges[r.Intn(len(v.Ranges))]
		n := odd(r)
		switch r.Intn(9) {
		case 0:
			l.At, g.At = g.At, l.At
		case 1:
			l.At, g.At, g.Pool = of(n, l.At.Len), of(n, l.At.Len), p.Id
		case 2:
			l.Owner, g.At, g.Pool = v.Id, l.At, p.Id
		case 3:
			v.Ranges = v.Ranges[:1]
		default:
			*pick(r, &l.Owner, &l.Owner, &l.Owner, &l.Kind, &l.Until, &l.At.At, &l.At.Len, &g.Pool, &g.At.At, &g.At.Len, &v.Id, &s.Net.Vpcs[3].Id, &p.Id, &p.Up, &s.Book.Tick, &s.Net.Links[0].B) = n
		}
	}
	return s
}

// pick is one of these.
func pick[T any](r *rand.Rand, l ...T) T { return l[r.Intn(len(l))] }
