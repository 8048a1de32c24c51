package pool_test

import (
	"slices"

	"parcelway/api"
)

// of is a prefix.
func of(at, size int) api.Prefix { return api.Prefix{At: at, Len: size} }

// user, nested and cooling are leases.
func user(p api.Prefix, owner int) api.Lease {
	return api.Lease{At: p, Kind: api.ForUser, Owner: owner}
}

func nested(p api.Prefix, id int) api.Lease {
	return api.Lease{At: p, Kind: api.ForPool, Owner: id}
}

func cooling(p api.Prefix, until int) api.Lease {
	return api.Lease{At: p, Kind: api.Cooling, Until: until}
}

// wide is a rule that bars little; it is right for a root of Len 8 or less.
func wide(cool int) api.Rule { return api.Rule{Min: 8, Max: 16, Usual: 12, Cool: cool} }

// base is a right book: 6 is in 4, 4 is in 1, and 2 is by itself.
func base() api.Book {
	return api.Book{Tick: 100, Pools: []api.Pool{
		{Id: 1, Root: of(256, 8), Rule: wide(3), Leases: []api.Lease{
			nested(of(256, 10), 4), user(of(320, 12), 7), cooling(of(336, 12), 101), cooling(of(352, 12), 1124)}},
		{Id: 2, Root: of(512, 8), Rule: wide(0)},
		{Id: 4, Up: 1, Root: of(256, 10), Rule: api.Rule{Min: 10, Max: 14, Usual: 13, Cool: 5}, Leases: []api.Lease{
			nested(of(256, 12), 6), user(of(272, 12), 65536)}},
		{Id: 6, Up: 4, Root: of(256, 12), Rule: api.Rule{Min: 12, Max: 16, Usual: 16}, Leases: []api.Lease{
			user(of(256, 16), 1)}},
	}}
}

// with is base, changed.
func with(turn func(b *api.Book)) api.Book {
	b := base()
	turn(&b)
	return b
}

// filled is a book with the pool 1, whose root is 0.0/size, and that has n leases of one address each.
func filled(size, n int) api.Book {
	p := api.Pool{Id: 1, Root: of(0, size), Rule: api.Rule{Min: size, Max: 16, Usual: 16}}
	for i := range n {
		p.Leases = append(p.Leases, user(of(i, 16), 1))
	}
	return api.Book{Pools: []api.Pool{p}}
}

// eight is a book with as many pools as there may be, of the Ids 1 to 8.
func eight() api.Book {
	var b api.Book
	for id := 1; id <= api.MaxPools; id++ {
		b.Pools = append(b.Pools, api.Pool{Id: id, Root: of(id*256, 8), Rule: wide(1)})
	}
	return b
}

// same tells whether two books are the same.
func same(a, b api.Book) bool {
	return a.Tick == b.Tick && slices.EqualFunc(a.Pools, b.Pools, func(p, q api.Pool) bool {
		return p.Id == q.Id && p.Up == q.Up && p.Root == q.Root && p.Rule == q.Rule && slices.Equal(p.Leases, q.Leases)
	})
}

// none tells whether b is an empty book: what comes with an error.
func none(b api.Book) bool { return same(b, api.Book{}) }
