package pool_test

import (
	"math"
	"slices"
	"testing"

	"parcelway/api"
	"parcelway/pool"
)

var badRule = api.Rule{Min: 9, Max: 16, Usual: 8}

func TestC2Open(t *testing.T) {
	for _, c := range []struct {
		id   int
		root api.Prefix
		at   int // where in the book the pool is then
	}{{3, of(0, 8), 2}, {7, of(768, 8), 4}, {65536, of(32768, 1), 4}, {5, of(65280, 8), 3}} {
		r := api.Rule{Min: 8, Max: 15, Usual: 9, Cool: 1024}
		want := base()
		want.Pools = slices.Insert(want.Pools, c.at, api.Pool{Id: c.id, Root: c.root, Rule: r})
		if b, e := pool.Open(base(), c.id, c.root, r); !same(b, want) || e != api.OK {
			t.Errorf("Open(%d, %v): %v %d", c.id, c.root, b, e)
		}
	}
	b, e := pool.Open(api.Book{}, 1, of(0, 0), api.Rule{})
	if !same(b, api.Book{Pools: []api.Pool{{Id: 1}}}) || e != api.OK {
		t.Errorf("the first pool: %v %d", b, e)
	}
}

func TestC2OpenErrors(t *testing.T) {
	full := eight()
	free := of(32768, 8)
	for _, c := range []struct {
		name string
		b    api.Book
		id   int
		root api.Prefix
		r    api.Rule
		e    api.Errno
	}{
		{"Id 0", base(), 0, free, wide(0), api.ErrRange},
		{"Id below 0", base(), -1, free, wide(0), api.ErrRange},
		{"Id too great", base(), 65537, free, wide(0), api.ErrRange},
		{"root no multiple", base(), 3, of(1, 8), wide(0), api.ErrRange},
		{"root beyond", base(), 3, of(65536, 8), wide(0), api.ErrRange},
		{"root too long", base(), 3, of(0, 17), wide(0), api.ErrRange},
		{"root far off", base(), 3, of(math.MaxInt, math.MinInt), wide(0), api.ErrRange},
		{"Id 0, root there, no rule, full", full, 0, of(256, 8), badRule, api.ErrRange},
		{"Id there, root wrong", full, 1, of(1, 8), badRule, api.ErrRange},
		{"Id there", base(), 1, free, wide(0), api.ErrThere},
		{"Id of a nested pool there", base(), 6, free, wide(0), api.ErrThere},
		{"Id there, no rule, full", full, 1, free, badRule, api.ErrThere},
		{"root there", base(), 3, of(512, 8), wide(0), api.ErrThere},
		{"root in one", base(), 3, of(511, 16), api.Rule{Min: 16, Max: 16, Usual: 16}, api.ErrThere},
		{"root has all", base(), 3, of(0, 0), wide(0), api.ErrThere},
		{"root of a nested pool", base(), 3, of(256, 12), api.Rule{Min: 12, Max: 12, Usual: 12}, api.ErrThere},
		{"root there, no rule, full", full, 9, of(512, 8), badRule, api.ErrThere},
		{"no rule", base(), 3, free, badRule, api.ErrForm},
		{"Min below the root's", base(), 3, free, api.Rule{Min: 7, Max: 16, Usual: 12}, api.ErrForm},
		{"Usual above Max", base(), 3, free, api.Rule{Min: 8, Max: 11, Usual: 12}, api.ErrForm},
		{"Max above Width", base(), 3, free, api.Rule{Min: 8, Max: 17, Usual: 12}, api.ErrForm},
		{"Cool below 0", base(), 3, free, wide(-1), api.ErrForm},
		{"Cool too great", base(), 3, free, wide(1025), api.ErrForm},
		{"no rule, full", full, 9, free, badRule, api.ErrForm},
		{"full", full, 9, free, wide(0), api.ErrMany},
	} {
		if b, e := pool.Open(c.b, c.id, c.root, c.r); !none(b) || e != c.e {
			t.Errorf("%s: %v %d, not %d", c.name, b, e, c.e)
		}
	}
	full.Pools = full.Pools[:7]
	if b, e := pool.Open(full, 9, free, wide(0)); len(b.Pools) != 8 || e != api.OK {
		t.Errorf("the last pool: %v %d", b, e)
	}
}

func TestC2Nest(t *testing.T) {
	r := api.Rule{Min: 14, Max: 15, Usual: 14, Cool: 9}
	want := base()
	want.Pools[2].Leases = append(want.Pools[2].Leases, nested(of(288, 12), 3))
	want.Pools = slices.Insert(want.Pools, 2, api.Pool{Id: 3, Up: 4, Root: of(288, 12), Rule: r})
	if b, p, e := pool.Nest(base(), 3, 4, 12, r); !same(b, want) || p != of(288, 12) || e != api.OK {
		t.Errorf("Nest in 4: %v %v %d", b, p, e)
	}
	want = base() // what cools is passed by; a lower part goes ahead of what is there
	want.Pools[0].Leases = append(want.Pools[0].Leases, nested(of(368, 12), 65536))
	want.Pools = append(want.Pools, api.Pool{Id: 65536, Up: 1, Root: of(368, 12), Rule: r})
	if b, p, e := pool.Nest(base(), 65536, 1, 12, r); !same(b, want) || p != of(368, 12) || e != api.OK {
		t.Errorf("Nest in 1: %v %v %d", b, p, e)
	}
	if b, p, e := pool.Nest(base(), 3, 2, 8, wide(0)); p != of(512, 8) || e != api.OK || pool.Check(b) != api.OK {
		t.Errorf("Nest of all of 2: %v %v %d", b, p, e)
	}
	all := api.Book{Pools: []api.Pool{{Id: 5}}} // the size 0 is no stand-in here: it is what it says
	all.Pools[0].Rule = api.Rule{Min: 0, Max: 16, Usual: 16}
	if b, p, e := pool.Nest(all, 1, 5, 0, api.Rule{Max: 16}); p != of(0, 0) || e != api.OK || len(b.Pools) != 2 || b.Pools[0].Root != of(0, 0) {
		t.Errorf("Nest of all: %v %v %d", b, p, e)
	}
}

func TestC2NestErrors(t *testing.T) {
	full := eight()
	used := eight()
	used.Pools[0].Leases = []api.Lease{user(of(256, 8), 1)}
	for _, c := range []struct {
		name         string
		b            api.Book
		id, up, size int
		r            api.Rule
		e            api.Errno
	}{
		{"Id 0", base(), 0, 1, 12, api.Rule{Min: 12, Max: 12, Usual: 12}, api.ErrRange},
		{"Id too great", base(), 65537, 1, 12, api.Rule{Min: 12, Max: 12, Usual: 12}, api.ErrRange},
		{"Id 0, no up", used, 0, 77, 99, badRule, api.ErrRange},
		{"no up", base(), 3, 5, 12, api.Rule{Min: 12, Max: 12, Usual: 12}, api.ErrNone},
		{"up 0", base(), 3, 0, 12, api.Rule{Min: 12, Max: 12, Usual: 12}, api.ErrNone},
		{"up itself", base(), 3, 3, 12, api.Rule{Min: 12, Max: 12, Usual: 12}, api.ErrNone},
		{"no up, Id there", used, 1, 77, 99, badRule, api.ErrNone},
		{"Id there", base(), 2, 1, 12, api.Rule{Min: 12, Max: 12, Usual: 12}, api.ErrThere},
		{"up itself, there", base(), 1, 1, 12, api.Rule{Min: 12, Max: 12, Usual: 12}, api.ErrThere},
		{"Id there, size wrong", used, 2, 1, 99, badRule, api.ErrThere},
		{"size below Min", base(), 3, 4, 9, api.Rule{Min: 12, Max: 12, Usual: 12}, api.ErrRule},
		{"size above Max", base(), 3, 4, 15, api.Rule{Min: 15, Max: 15, Usual: 15}, api.ErrRule},
		{"size 0", base(), 3, 4, 0, api.Rule{Min: 13, Max: 13, Usual: 13}, api.ErrRule},
		{"size far off", base(), 3, 1, math.MaxInt, wide(0), api.ErrRule},
		{"size below 0", base(), 3, 1, math.MinInt, wide(0), api.ErrRule},
		{"size wrong, nothing fits", used, 9, 1, 7, badRule, api.ErrRule},
		{"nothing fits", base(), 3, 1, 8, wide(0), api.ErrFull},
		{"nothing fits, no rule", used, 9, 1, 16, badRule, api.ErrFull},
		{"32 leases", filled(8, 32), 2, 1, 16, api.Rule{Min: 16, Max: 16, Usual: 16}, api.ErrFull},
		{"32 leases, no rule", filled(8, 32), 2, 1, 16, badRule, api.ErrFull},
		{"no rule", base(), 3, 1, 12, badRule, api.ErrForm},
		{"rule right for up alone", base(), 3, 1, 12, api.Rule{Min: 11, Max: 16, Usual: 12}, api.ErrForm},
		{"Cool too great", base(), 3, 1, 12, api.Rule{Min: 12, Max: 16, Usual: 12, Cool: 1025}, api.ErrForm},
		{"no rule, full", full, 9, 1, 12, badRule, api.ErrForm},
		{"full", full, 9, 1, 12, api.Rule{Min: 12, Max: 16, Usual: 12}, api.ErrMany},
	} {
		if b, p, e := pool.Nest(c.b, c.id, c.up, c.size, c.r); !none(b) || p != of(0, 0) || e != c.e {
			t.Errorf("%s: %v %v %d, not %d", c.name, b, p, e, c.e)
		}
	}
}

func TestC3Take(t *testing.T) {
	for _, c := range []struct {
		id, size, owner int
		p               api.Prefix
		at              int // where among the leases it is then
	}{
		{1, 0, 1, of(368, 12), 4}, {1, 9, 65536, of(384, 9), 4}, {1, 16, 7, of(368, 16), 4},
		{2, 0, 3, of(512, 12), 0}, {2, 8, 3, of(512, 8), 0},
		{4, 0, 3, of(288, 13), 2}, {4, 14, 3, of(288, 14), 2}, {6, 0, 3, of(257, 16), 1}, {6, 13, 3, of(264, 13), 1},
	} {
		want := base()
		i := slices.IndexFunc(want.Pools, func(p api.Pool) bool { return p.Id == c.id })
		want.Pools[i].Leases = slices.Insert(want.Pools[i].Leases, c.at, user(c.p, c.owner))
		if b, p, e := pool.Take(base(), c.id, c.size, c.owner); !same(b, want) || p != c.p || e != api.OK {
			t.Errorf("Take(%d, %d, %d): %v %v %d, not %v", c.id, c.size, c.owner, b, p, e, c.p)
		}
	}
	b := filled(11, 32) // a gap is filled, and the lease stands where it belongs
	b.Pools[0].Leases = slices.Delete(b.Pools[0].Leases, 5, 6)
	if c, p, e := pool.Take(b, 1, 0, 1); !same(c, filled(11, 32)) || p != of(5, 16) || e != api.OK {
		t.Errorf("Take of a gap: %v %v %d", c, p, e)
	}
	if c, p, e := pool.Take(filled(8, 31), 1, 0, 1); !same(c, filled(8, 32)) || p != of(31, 16) || e != api.OK {
		t.Errorf("the last Take: %v %v %d", c, p, e)
	}
}

func TestC3TakeErrors(t *testing.T) {
	for _, c := range []struct {
		name            string
		b               api.Book
		id, size, owner int
		e               api.Errno
	}{
		{"no pool", base(), 3, 12, 1, api.ErrNone},
		{"no pools", api.Book{}, 1, 0, 1, api.ErrNone},
		{"pool 0", base(), 0, 12, 1, api.ErrNone},
		{"no pool, owner 0, size wrong", base(), 3, 99, 0, api.ErrNone},
		{"owner 0", base(), 1, 12, 0, api.ErrRange},
		{"owner below 0", base(), 1, 12, -1, api.ErrRange},
		{"owner too great", base(), 1, 12, 65537, api.ErrRange},
		{"owner 0, size wrong", base(), 1, 7, 0, api.ErrRange},
		{"owner 0, full", filled(8, 32), 1, 16, 0, api.ErrRange},
		{"size below Min", base(), 4, 9, 1, api.ErrRule},
		{"size above Max", base(), 4, 15, 1, api.ErrRule},
		{"size below 0", base(), 1, -1, 1, api.ErrRule},
		{"size above Width", base(), 1, 17, 1, api.ErrRule},
		{"size far off", base(), 1, math.MinInt, 1, api.ErrRule},
		{"size wrong, full", filled(8, 32), 1, 17, 1, api.ErrRule},
		{"nothing fits", base(), 1, 8, 1, api.ErrFull},
		{"nothing fits in 4", base(), 4, 10, 1, api.ErrFull},
		{"32 leases, and no room", filled(11, 32), 1, 0, 1, api.ErrFull},
		{"32 leases, and room", filled(8, 32), 1, 0, 1, api.ErrFull},
	} {
		if b, p, e := pool.Take(c.b, c.id, c.size, c.owner); !none(b) || p != of(0, 0) || e != c.e {
			t.Errorf("%s: %v %v %d, not %d", c.name, b, p, e, c.e)
		}
	}
}

func TestC3Give(t *testing.T) {
	want := base()
	want.Pools[0].Leases[1] = cooling(of(320, 12), 103)
	if b, e := pool.Give(base(), 1, of(320, 12)); !same(b, want) || e != api.OK {
		t.Errorf("Give to 1: %v %d", b, e)
	}
	want = base()
	want.Pools[2].Leases[1] = cooling(of(272, 12), 105)
	if b, e := pool.Give(base(), 4, of(272, 12)); !same(b, want) || e != api.OK {
		t.Errorf("Give to 4: %v %d", b, e)
	}
	want = base()
	want.Pools[3].Leases = nil
	if b, e := pool.Give(base(), 6, of(256, 16)); !same(b, want) || e != api.OK {
		t.Errorf("Give to 6, Cool 0: %v %d", b, e)
	}
	late := api.Book{Tick: api.MaxTick, Pools: []api.Pool{{Id: 1, Root: of(0, 8), Rule: wide(1024), Leases: []api.Lease{user(of(0, 8), 1)}}}}
	if b, e := pool.Give(late, 1, of(0, 8)); e != api.OK || b.Pools[0].Leases[0].Until != api.MaxTick+1024 || pool.Check(b) != api.OK {
		t.Errorf("Give at last: %v %d", b, e)
	}
}

func TestC3GiveErrors(t *testing.T) {
	for _, c := range []struct {
		name string
		id   int
		p    api.Prefix
	}{
		{"no pool", 3, of(320, 12)}, {"pool 0", 0, of(320, 12)}, {"another pool's", 4, of(320, 12)},
		{"a nested pool's", 1, of(256, 10)}, {"a cooling one", 1, of(336, 12)}, {"a free one", 1, of(384, 9)},
		{"a part of one", 1, of(320, 13)}, {"one that has one", 1, of(320, 10)}, {"a wrong one", 1, of(321, 12)},
		{"one far off", 1, of(math.MinInt, math.MaxInt)}, {"a part of a pool that is in it", 1, of(272, 12)},
	} {
		if b, e := pool.Give(base(), c.id, c.p); !none(b) || e != api.ErrNone {
			t.Errorf("%s: %v %d, not ErrNone", c.name, b, e)
		}
	}
}

func TestC4Close(t *testing.T) {
	want := base()
	want.Pools = slices.Delete(want.Pools, 1, 2)
	if b, e := pool.Close(base(), 2); !same(b, want) || e != api.OK {
		t.Errorf("Close of 2: %v %d", b, e)
	}
	given, _ := pool.Give(base(), 6, of(256, 16))
	want = base() // it cools as long as the pool above it says
	want.Pools[2].Leases[0] = cooling(of(256, 12), 105)
	want.Pools = want.Pools[:3]
	if b, e := pool.Close(given, 6); !same(b, want) || e != api.OK {
		t.Errorf("Close of 6: %v %d", b, e)
	}
	given.Pools[2].Rule.Cool = 0
	want.Pools[2].Rule.Cool = 0
	want.Pools[2].Leases = want.Pools[2].Leases[1:]
	if b, e := pool.Close(given, 6); !same(b, want) || e != api.OK {
		t.Errorf("Close of 6, Cool 0 above: %v %d", b, e)
	}
	cools := with(func(b *api.Book) { b.Pools[0].Leases = b.Pools[0].Leases[2:]; b.Pools = b.Pools[:2] })
	if b, e := pool.Close(cools, 1); !same(b, api.Book{Tick: 100, Pools: cools.Pools[1:]}) || e != api.OK {
		t.Errorf("Close of one that has but cooling leases: %v %d", b, e)
	}
}

func TestC4CloseErrors(t *testing.T) {
	for _, id := range []int{0, 3, 5, 7, -1, math.MaxInt} {
		if b, e := pool.Close(base(), id); !none(b) || e != api.ErrNone {
			t.Errorf("Close of %d: %v %d, not ErrNone", id, b, e)
		}
	}
	for _, id := range []int{1, 4, 6} {
		if b, e := pool.Close(base(), id); !none(b) || e != api.ErrBusy {
			t.Errorf("Close of %d: %v %d, not ErrBusy", id, b, e)
		}
	}
	holds := with(func(b *api.Book) { b.Pools[2].Leases = b.Pools[2].Leases[:1] })
	if b, e := pool.Close(holds, 4); !none(b) || e != api.ErrBusy {
		t.Errorf("Close of one that has but a nested pool: %v %d", b, e)
	}
}

func TestC4Pass(t *testing.T) {
	for _, c := range []struct {
		n    int
		left []api.Lease
	}{
		{1, []api.Lease{nested(of(256, 10), 4), user(of(320, 12), 7), cooling(of(352, 12), 1124)}},
		{1023, []api.Lease{nested(of(256, 10), 4), user(of(320, 12), 7), cooling(of(352, 12), 1124)}},
		{1024, []api.Lease{nested(of(256, 10), 4), user(of(320, 12), 7)}},
		{api.MaxTick - 100, []api.Lease{nested(of(256, 10), 4), user(of(320, 12), 7)}},
	} {
		want := base()
		want.Tick, want.Pools[0].Leases = 100+c.n, c.left
		if b, e := pool.Pass(base(), c.n); !same(b, want) || e != api.OK {
			t.Errorf("Pass(%d): %v %d", c.n, b, e)
		}
	}
	late := lease(cooling(of(320, 12), 102))
	late.Pools[2].Leases[1] = cooling(of(272, 12), 102)
	b, e := pool.Pass(late, 1)
	if e != api.OK || len(b.Pools[0].Leases) != 3 || len(b.Pools[2].Leases) != 2 {
		t.Errorf("one tick: %v %d", b, e)
	}
	b, e = pool.Pass(late, 2)
	if e != api.OK || len(b.Pools[0].Leases) != 2 || len(b.Pools[2].Leases) != 1 {
		t.Errorf("two ticks: %v %d", b, e)
	}
	if b, e := pool.Pass(api.Book{}, api.MaxTick); b.Tick != api.MaxTick || e != api.OK {
		t.Errorf("all ticks: %v %d", b, e)
	}
}

func TestC4PassErrors(t *testing.T) {
	for _, n := range []int{0, -1, math.MinInt, api.MaxTick - 99, api.MaxTick, math.MaxInt, math.MaxInt - 99} {
		if b, e := pool.Pass(base(), n); !none(b) || e != api.ErrRange {
			t.Errorf("Pass(%d): %v %d, not ErrRange", n, b, e)
		}
	}
	if b, e := pool.Pass(api.Book{Tick: api.MaxTick}, 1); !none(b) || e != api.ErrRange {
		t.Errorf("a tick behind the last one: %v %d", b, e)
	}
}

// TestExample3: the document's third example.
func TestExample3(t *testing.T) {
	b, e := pool.Open(api.Book{}, 1, of(256, 8), wide(0))
	if e != api.OK {
		t.Fatal(e)
	}
	b, p, e := pool.Take(b, 1, 0, 1)
	if p != of(256, 12) || e != api.OK {
		t.Errorf("Take: %v %d", p, e)
	}
	if _, p, e = pool.Nest(b, 2, 1, 10, api.Rule{Min: 10, Max: 16, Usual: 12}); p != of(320, 10) || e != api.OK {
		t.Errorf("Nest: %v %d", p, e)
	}
}
