package pool_test

import (
	"math"
	"math/rand"
	"slices"
	"testing"

	"parcelway/api"
	"parcelway/pool"
)

// A step is one call, with what it is handed.
type step struct {
	what, id, up, size, owner, n int
	at                           api.Prefix
	rule                         api.Rule
}

// pick is one of these.
func pick[T any](r *rand.Rand, l ...T) T { return l[r.Intn(len(l))] }

// drawStep is a step that has something to do with b, mostly.
func drawStep(r *rand.Rand, b api.Book) step {
	s := step{what: r.Intn(12), id: 1 + r.Intn(10), up: 1 + r.Intn(10), size: 8 + r.Intn(9), owner: 1 + r.Intn(4), n: 1 + r.Intn(3)}
	if len(b.Pools) < api.MaxPools && r.Intn(3) == 0 {
		s.what = r.Intn(2)
	}
	if r.Intn(30) == 0 {
		s.id, s.owner, s.n = pick(r, 0, -1, 65536, 65537), pick(r, 0, 65536, 65537), pick(r, 0, -1, 1<<30, math.MaxInt)
	}
	if r.Intn(4) == 0 {
		s.size = pick(r, 0, 16, 16, 17, -1)
	}
	s.at = of(256*r.Intn(4), 8+r.Intn(3))
	s.rule = api.Rule{Min: 8 + r.Intn(4), Usual: 11 + r.Intn(3), Max: 13 + r.Intn(4), Cool: pick(r, 0, 1, 2, 5, 5, 1024)}
	if len(b.Pools) > 0 && s.what >= 4 {
		p := pick(r, b.Pools...)
		if r.Intn(8) > 0 {
			s.id = p.Id
		}
		if len(p.Leases) > 0 {
			s.at = pick(r, p.Leases...).At
		}
	}
	if s.what == 1 && r.Intn(3) > 0 {
		s.rule.Min, s.rule.Usual, s.rule.Max = max(s.size, 8), 16, 16
	}
	return s
}

// do it by package pool.
func (s step) do(b api.Book) (api.Book, api.Prefix, api.Errno) {
	var p api.Prefix
	var e api.Errno
	switch s.what {
	case 0:
		b, e = pool.Open(b, s.id, s.at, s.rule)
	case 1:
		b, p, e = pool.Nest(b, s.id, s.up, s.size, s.rule)
	case 2:
		b, e = pool.Close(b, s.id)
	case 3:
		b, e = pool.Pass(b, s.n)
	case 4, 5:
		b, e = pool.Give(b, s.id, s.at)
	default:
		b, p, e = pool.Take(b, s.id, s.size, s.owner)
	}
	return b, p, e
}

// model does it by the model.
func (s step) model(m *model) (p api.Prefix, e api.Errno) {
	switch s.what {
	case 0:
		e = m.open(s.id, s.at, s.rule)
	case 1:
		p, e = m.nest(s.id, s.up, s.size, s.rule)
	case 2:
		e = m.shut(s.id)
	case 3:
		e = m.pass(s.n)
	case 4, 5:
		e = m.give(s.id, s.at)
	default:
		p, e = m.take(s.id, s.size, s.owner)
	}
	return p, e
}

// clash tells whether an address is in two leases of a pool, or in leases ForUser of two pools.
func clash(b api.Book) bool {
	var users []api.Prefix
	for _, p := range b.Pools {
		for i, l := range p.Leases {
			if slices.ContainsFunc(p.Leases[:i], func(m api.Lease) bool { return share(m.At, l.At) }) {
				return true
			}
			if l.Kind == api.ForUser {
				if slices.ContainsFunc(users, func(u api.Prefix) bool { return share(u, l.At) }) {
					return true
				}
				users = append(users, l.At)
			}
		}
	}
	return false
}

// A back is a part that came back, and until when it must cool.
type back struct {
	pool, until int
	at          api.Prefix
}

// TestC2C3C4C5Play: long scripts, held against the model; and what the chapter promises of all of them.
func TestC2C3C4C5Play(t *testing.T) {
	seen := map[[2]int]int{}
	for seed := range int64(60) {
		r := rand.New(rand.NewSource(seed))
		var b api.Book
		m := &model{pools: map[int]*entry{}}
		var cools []back
		for i := range 300 {
			s := drawStep(r, b)
			n, p, e := s.do(b)
			q, f := s.model(m)
			want := m.book()
			if f != api.OK {
				want = api.Book{}
			}
			if p != q || e != f || !same(n, want) {
				t.Fatalf("%d, %d: %+v of %v:\nit is %v %v %d,\nand must be %v %v %d", seed, i, s, b, n, p, e, want, q, f)
			}
			seen[[2]int{s.what, int(e)}]++
			if e != api.OK {
				continue
			}
			if pool.Check(n) != api.OK || clash(n) {
				t.Fatalf("%d, %d: %+v: then the book is wrong: %v", seed, i, s, n)
			}
			cools = cooled(t, cools, s, b, n, p)
			b = n
		}
	}
	for _, w := range [][2]int{{0, 0}, {0, 1}, {0, 3}, {0, 6}, {1, 0}, {1, 1}, {1, 2}, {1, 3}, {1, 5}, {1, 6}, {1, 7}, {1, 8}, {2, 0}, {2, 5}, {2, 9}, {3, 0}, {3, 3}, {4, 0}, {4, 5}, {7, 0}, {7, 3}, {7, 5}, {7, 7}, {7, 8}} {
		if seen[w] == 0 {
			t.Errorf("the scripts never had the call %d answer %d", w[0], w[1])
		}
	}
}

// cooled holds a part that was given against all that cools in its pool; and adds what the step gave back.
func cooled(t *testing.T, l []back, s step, b, n api.Book, p api.Prefix) []back {
	from := s.id
	if s.what == 1 {
		from = s.up
	}
	if s.what == 1 || s.what > 5 {
		for _, c := range l {
			if c.pool == from && n.Tick < c.until && share(c.at, p) {
				t.Fatalf("%+v: %v was given, and %v cools until %d", s, p, c.at, c.until)
			}
		}
	}
	for _, x := range b.Pools {
		switch {
		case s.what != 2 && s.what != 4 && s.what != 5 || x.Id != s.id:
		case s.what != 2:
			l = append(l, back{x.Id, b.Tick + x.Rule.Cool, s.at})
		default: // a pool that is closed is no more, with all that cools in it
			l = slices.DeleteFunc(l, func(c back) bool { return c.pool == x.Id })
			for _, up := range b.Pools {
				if up.Id == x.Up {
					l = append(l, back{up.Id, b.Tick + up.Rule.Cool, x.Root})
				}
			}
		}
	}
	return l
}

// steps are calls, one at least of each kind, that base answers without an error.
var steps = []step{
	{what: 0, id: 3, at: of(0, 8), rule: wide(1)},
	{what: 1, id: 5, up: 4, size: 12, rule: api.Rule{Min: 12, Max: 16, Usual: 12}},
	{what: 1, id: 3, up: 1, size: 16, rule: api.Rule{Min: 16, Max: 16, Usual: 16}},
	{what: 2, id: 2},
	{what: 3, n: 1}, {what: 3, n: 1024},
	{what: 4, id: 1, at: of(320, 12)}, {what: 4, id: 4, at: of(272, 12)}, {what: 4, id: 6, at: of(256, 16)},
	{what: 7, id: 1, owner: 9}, {what: 7, id: 2, size: 10, owner: 9}, {what: 7, id: 6, owner: 9},
}

// roomy is base, with spare room behind each list, and something in it.
func roomy() api.Book {
	b := base()
	for i := range b.Pools {
		l := make([]api.Lease, 10)
		for j := range l {
			l[j] = user(of(-5, -5), -5)
		}
		b.Pools[i].Leases = l[:copy(l, b.Pools[i].Leases)]
	}
	l := make([]api.Pool, 10)
	for j := range l {
		l[j] = api.Pool{Id: -5}
	}
	b.Pools = l[:copy(l, b.Pools)]
	return b
}

// whole is b with the spare room of its lists.
func whole(b api.Book) api.Book {
	n := api.Book{Tick: b.Tick, Pools: slices.Clone(b.Pools[:cap(b.Pools)])}
	for i, p := range n.Pools {
		n.Pools[i].Leases = p.Leases[:cap(p.Leases)]
	}
	return n
}

// TestP2: what is handed in, and the spare room behind it, stays; an answer is new memory.
func TestP2(t *testing.T) {
	for _, s := range steps {
		b := roomy()
		n, _, e := s.do(b)
		if e != api.OK {
			t.Fatalf("%+v: %d", s, e)
		}
		for i, p := range n.Pools { // each list gets a mark of its own, its spare room too
			l := p.Leases[:cap(p.Leases)]
			for j := range l {
				l[j] = user(of(i, i), i)
			}
		}
		for i, p := range n.Pools {
			for _, l := range p.Leases[:cap(p.Leases)] {
				if l.Owner != i {
					t.Fatalf("%+v: two lists of the answer share memory", s)
				}
			}
		}
		clear(n.Pools[:cap(n.Pools)])
		if !same(whole(b), whole(roomy())) {
			t.Fatalf("%+v: what was handed in is changed: %v", s, whole(b))
		}
	}
	b := roomy()
	if e := pool.Check(b); e != api.OK || !same(whole(b), whole(roomy())) {
		t.Errorf("Check: %d, and %v", e, whole(b))
	}
}

// TestP3: the same call has the same answer, whatever was asked in between.
func TestP3(t *testing.T) {
	b := base()
	for _, s := range steps {
		n, p, e := s.do(b)
		for _, other := range steps {
			other.do(b)
			other.do(n)
		}
		if m, q, f := s.do(b); !same(n, m) || p != q || e != f {
			t.Errorf("%+v: %v %v %d, then %v %v %d", s, n, p, e, m, q, f)
		}
	}
}

// TestP1: junk ends, does not panic, and has nothing but its error.
func TestP1(t *testing.T) {
	r := rand.New(rand.NewSource(3))
	odd := func() int {
		return pick(r, math.MinInt, -65536, -1, 0, 1, 2, 3, 4, 6, 8, 12, 16, 17, 100, 101, 256, 320, 65535, 65536, 65537, 1<<30, 1<<30+1, math.MaxInt)
	}
	for range 40000 {
		b := base()
		for range r.Intn(3) {
			p := &b.Pools[r.Intn(len(b.Pools))]
			fields := []*int{&b.Tick, &p.Id, &p.Up, &p.Root.At, &p.Root.Len, &p.Rule.Min, &p.Rule.Max, &p.Rule.Usual, &p.Rule.Cool}
			for i := range p.Leases {
				l := &p.Leases[i]
				fields = append(fields, &l.At.At, &l.At.Len, &l.Kind, &l.Owner, &l.Until)
			}
			*pick(r, fields...) = odd()
		}
		s := step{what: r.Intn(8), id: odd(), up: odd(), size: odd(), owner: odd(), n: odd(), at: of(odd(), odd()), rule: api.Rule{Min: odd(), Max: odd(), Usual: odd(), Cool: odd()}}
		want := pool.Check(b)
		n, p, e := s.do(b)
		switch {
		case want != api.OK && e != want:
			t.Fatalf("%+v of %v: %d, and Check %d", s, b, e, want)
		case e != api.OK && (!none(n) || p != of(0, 0)):
			t.Fatalf("%+v of %v: with an error come %v %v", s, b, n, p)
		case e == api.OK && pool.Check(n) != api.OK:
			t.Fatalf("%+v of %v: %v is wrong", s, b, n)
		}
	}
}
