package pool_test

import (
	"math"
	"testing"

	"parcelway/api"
	"parcelway/pool"
)

// ring is a book whose pools are each in the next one, and the last one in the first one; all have one root.
func ring(n int) api.Book {
	var b api.Book
	for i := range n {
		b.Pools = append(b.Pools, api.Pool{Id: i + 1, Up: (i+1)%n + 1, Root: of(256, 8), Rule: wide(1), Leases: []api.Lease{nested(of(256, 8), (i+n-1)%n+1)}})
	}
	return b
}

// chain is a book whose pools are each in the next one, but the last one in none; all have one root.
func chain(n int) api.Book {
	b := ring(n)
	b.Pools[n-1].Up, b.Pools[0].Leases = 0, nil
	return b
}

// upside is a chain whose pools are each in the one ahead.
func upside(n int) api.Book {
	var b api.Book
	for i := range n {
		b.Pools = append(b.Pools, api.Pool{Id: i + 1, Up: i, Root: of(0, i), Rule: api.Rule{Min: i, Max: 16, Usual: 16}})
		if i < n-1 {
			b.Pools[i].Leases = []api.Lease{nested(of(0, i+1), i+2)}
		}
	}
	return b
}

// upward is a chain whose first pool has a lease for that one, too.
func upward(n, owner int) api.Book {
	b := chain(n)
	b.Pools[0].Leases = []api.Lease{nested(of(256, 8), owner)}
	return b
}

// ringBeside is a ring of two, and a pool beside them that is right.
func ringBeside() api.Book {
	b := ring(2)
	b.Pools = append(b.Pools, api.Pool{Id: 3, Root: of(512, 8), Rule: wide(1)})
	return b
}

var rightBooks = map[string]api.Book{
	"nothing":               {},
	"base":                  base(),
	"the greatest tick":     with(func(b *api.Book) { *b = api.Book{Tick: api.MaxTick, Pools: b.Pools[1:2]} }),
	"cooling beyond":        {Tick: api.MaxTick, Pools: []api.Pool{{Id: 1, Root: of(0, 8), Rule: wide(0), Leases: []api.Lease{cooling(of(0, 16), api.MaxTick+1024)}}}},
	"the greatest Id":       {Pools: []api.Pool{{Id: 1, Root: of(0, 8), Rule: wide(0)}, {Id: 65536, Root: of(256, 8), Rule: wide(0)}}},
	"eight pools":           eight(),
	"32 leases":             filled(8, 32),
	"the narrowest rule":    {Pools: []api.Pool{{Id: 1, Root: of(9, 16), Rule: api.Rule{Min: 16, Max: 16, Usual: 16, Cool: 1024}}}},
	"the widest rule":       {Pools: []api.Pool{{Id: 1, Root: of(0, 0), Rule: api.Rule{Min: 0, Max: 16, Usual: 0}}}},
	"a rule of one size":    {Pools: []api.Pool{{Id: 1, Root: of(0, 4), Rule: api.Rule{Min: 8, Max: 8, Usual: 8}}}},
	"parts the rule bars":   with(func(b *api.Book) { b.Pools[0].Rule = api.Rule{Min: 15, Max: 15, Usual: 15} }),
	"cooling, Cool 0":       with(func(b *api.Book) { b.Pools[0].Rule.Cool = 0 }),
	"a chain of one":        chain(1),
	"a chain of eight":      chain(8),
	"a chain of eight down": upside(8),
	"empty lists":           {Pools: []api.Pool{{Id: 1, Root: of(0, 8), Rule: wide(0), Leases: []api.Lease{}}}},
}

func TestC1Right(t *testing.T) {
	for name, b := range rightBooks {
		if e := pool.Check(b); e != api.OK {
			t.Errorf("%s: Check %d", name, e)
		}
	}
}

// lease is base with that lease in the place of the user's of pool 1.
func lease(l api.Lease) api.Book {
	return with(func(b *api.Book) { b.Pools[0].Leases[1] = l })
}

// rule is base with that rule of pool 2.
func rule(min, usual, max, cool int) api.Book {
	return with(func(b *api.Book) { b.Pools[1].Rule = api.Rule{Min: min, Usual: usual, Max: max, Cool: cool} })
}

// root is base with that root of pool 2.
func root(at, size int) api.Book {
	return with(func(b *api.Book) { b.Pools[1].Root = of(at, size) })
}

var wrongForms = map[string]api.Book{
	"tick below 0":           with(func(b *api.Book) { *b = api.Book{Tick: -1} }),
	"tick too great":         with(func(b *api.Book) { *b = api.Book{Tick: api.MaxTick + 1} }),
	"tick far off":           with(func(b *api.Book) { b.Tick = math.MaxInt }),
	"Id 0":                   with(func(b *api.Book) { b.Pools = b.Pools[1:2]; b.Pools[0].Id = 0 }),
	"Id below 0":             with(func(b *api.Book) { b.Pools = b.Pools[1:2]; b.Pools[0].Id = -1 }),
	"Id too great":           with(func(b *api.Book) { b.Pools = b.Pools[1:2]; b.Pools[0].Id = 65537 }),
	"Ids the same":           {Pools: []api.Pool{{Id: 2, Root: of(0, 8), Rule: wide(0)}, {Id: 2, Root: of(256, 8), Rule: wide(0)}}},
	"Ids fall":               {Pools: []api.Pool{{Id: 2, Root: of(0, 8), Rule: wide(0)}, {Id: 1, Root: of(256, 8), Rule: wide(0)}}},
	"root no multiple":       root(513, 8),
	"root too long":          root(512, 17),
	"root beyond":            root(65536, 8),
	"33 leases":              filled(8, 33),
	"very many leases":       filled(0, 1<<18),
	"lease outside":          lease(user(of(512, 12), 7)),
	"lease no multiple":      lease(user(of(321, 12), 7)),
	"lease too long":         lease(user(of(320, 17), 7)),
	"leases meet":            lease(user(of(256, 11), 7)),
	"leases fall":            lease(user(of(384, 12), 7)),
	"Min below the root's":   rule(7, 12, 16, 0),
	"Usual below Min":        rule(9, 8, 16, 0),
	"Usual above Max":        rule(8, 13, 12, 0),
	"Max above Width":        rule(8, 12, 17, 0),
	"Max and Usual above":    rule(8, 17, 17, 0),
	"Cool below 0":           rule(8, 12, 16, -1),
	"Cool too great":         rule(8, 12, 16, 1025),
	"rule far off":           rule(8, math.MaxInt, math.MaxInt, 0),
	"kind 0":                 lease(api.Lease{At: of(320, 12)}),
	"kind 4":                 lease(api.Lease{At: of(320, 12), Kind: 4, Owner: 7}),
	"kind -1":                lease(api.Lease{At: of(320, 12), Kind: -1, Owner: 7}),
	"user 0":                 lease(user(of(320, 12), 0)),
	"user below 0":           lease(user(of(320, 12), -1)),
	"user too great":         lease(user(of(320, 12), 65537)),
	"user until":             lease(api.Lease{At: of(320, 12), Kind: api.ForUser, Owner: 7, Until: 101}),
	"cooling owned":          lease(api.Lease{At: of(320, 12), Kind: api.Cooling, Owner: 7, Until: 101}),
	"cooling until 0":        lease(cooling(of(320, 12), 0)),
	"cooling until now":      lease(cooling(of(320, 12), 100)),
	"cooling too long":       lease(cooling(of(320, 12), 1125)),
	"for no pool":            lease(nested(of(320, 12), 5)),
	"for pool 0":             lease(nested(of(320, 12), 0)),
	"for a pool beside":      lease(nested(of(320, 12), 2)),
	"for a pool deeper":      lease(nested(of(320, 12), 6)),
	"for itself":             lease(nested(of(320, 12), 1)),
	"all of it for itself":   upward(1, 1),
	"for the pool above it":  upward(2, 2),
	"for the one above that": upward(3, 3),
	"for itself, nested":     upward(3, 1),
	"for one pool twice":     lease(nested(of(320, 12), 4)),
	"nested until":           with(func(b *api.Book) { b.Pools[0].Leases[0].Until = 101 }),
	"nested a smaller part":  with(func(b *api.Book) { b.Pools[0].Leases[0].At.Len = 11 }),
	"nested another part":    with(func(b *api.Book) { b.Pools[3].Root = of(272, 12); b.Pools[3].Leases = nil }),
	"nested is a user's":     with(func(b *api.Book) { b.Pools[0].Leases[0].Kind = api.ForUser }),
	"nested is cooling":      with(func(b *api.Book) { b.Pools[0].Leases[0] = cooling(of(256, 10), 101) }),
	"nested has no lease":    with(func(b *api.Book) { b.Pools[0].Leases = b.Pools[0].Leases[1:] }),
	"nested, but Up 0":       with(func(b *api.Book) { b.Pools[3].Up = 0 }),
	"Up in no pool":          with(func(b *api.Book) { b.Pools[1].Up = 9 }),
	"Up below 0":             with(func(b *api.Book) { b.Pools[1].Up = -1 }),
	"Up without a lease":     with(func(b *api.Book) { b.Pools[1].Up = 1 }),
	"Up in a pool too high":  with(func(b *api.Book) { b.Pools[3].Up = 1 }),
	"Up is a user of its Id": with(func(b *api.Book) { b.Pools[1].Up, b.Pools[0].Leases[1].Owner = 1, 2 }),
	"above itself":           ring(1),
	"two above each other":   ring(2),
	"eight above each other": ring(8),
	"a ring, a pool beside":  ringBeside(),
	"roots the same":         root(256, 8),
	"root in another one":    with(func(b *api.Book) { b.Pools[1].Root, b.Pools[1].Rule.Min = of(384, 9), 9 }),
	"root in a pool's free": with(func(b *api.Book) {
		b.Pools[1].Root, b.Pools[1].Rule = of(511, 16), api.Rule{Min: 16, Max: 16, Usual: 16}
	}),
	"root has another one":    root(0, 7),
	"root has all":            root(0, 0),
	"wrong in the last pool":  with(func(b *api.Book) { b.Pools[3].Leases[0].Owner = 0 }),
	"wrong in the last lease": with(func(b *api.Book) { b.Pools[0].Leases[3].Until = 1125 }),
}

var wrongMany = map[string]api.Book{
	"nine pools":                    with(func(b *api.Book) { b.Pools = append(eight().Pools, api.Pool{Id: 9, Root: of(0, 8), Rule: wide(0)}) }),
	"nine pools, of nothing":        {Pools: make([]api.Pool, 9)},
	"nine pools, and a wrong tick":  {Tick: -1, Pools: make([]api.Pool, 9)},
	"very many pools":               {Pools: make([]api.Pool, 1<<16)},
	"nine pools, too many in a one": {Pools: append(filled(8, 33).Pools, eight().Pools...)},
}

// tell holds the error of each call against want; none of what it is asked for can be had.
func tell(t *testing.T, name string, b api.Book, want api.Errno) {
	t.Helper()
	if e := pool.Check(b); e != want {
		t.Errorf("%s: Check %d, not %d", name, e, want)
	}
	for _, n := range []int{1, 3, 0, math.MaxInt} { // the book's error comes ahead of whatever else is wrong
		p := of(n<<8, 8)
		if c, e := pool.Open(b, n, p, wide(0)); !none(c) || e != want {
			t.Errorf("%s: Open %v %d, not %d", name, c, e, want)
		}
		if c, q, e := pool.Nest(b, n, 1, 12, wide(0)); !none(c) || q != of(0, 0) || e != want {
			t.Errorf("%s: Nest %v %v %d, not %d", name, c, q, e, want)
		}
		if c, e := pool.Close(b, n); !none(c) || e != want {
			t.Errorf("%s: Close %v %d, not %d", name, c, e, want)
		}
		if c, q, e := pool.Take(b, n, 0, 1); !none(c) || q != of(0, 0) || e != want {
			t.Errorf("%s: Take %v %v %d, not %d", name, c, q, e, want)
		}
		if c, e := pool.Give(b, n, of(320, 12)); !none(c) || e != want {
			t.Errorf("%s: Give %v %d, not %d", name, c, e, want)
		}
		if c, e := pool.Pass(b, n); !none(c) || e != want {
			t.Errorf("%s: Pass %v %d, not %d", name, c, e, want)
		}
	}
}

func TestC1Wrong(t *testing.T) {
	for name, b := range wrongForms {
		tell(t, name, b, api.ErrForm)
	}
	for name, b := range wrongMany {
		tell(t, name, b, api.ErrMany)
	}
}
