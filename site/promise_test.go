package site_test

import (
	"math/rand"
	"slices"
	"testing"

	"parcelway/api"
	"parcelway/site"
)

// TestP1: junk ends, does not panic, and has nothing but its error.
func TestP1(t *testing.T) {
	r := rand.New(rand.NewSource(3))
	for range 60000 {
		s := oddSite(r)
		c := api.Cmd{Op: r.Intn(18), A: odd(r), B: odd(r), C: odd(r), At: of(odd(r), odd(r)), Rule: api.Rule{Min: odd(r), Max: odd(r), Usual: odd(r), Cool: odd(r)}}
		want := site.Check(s)
		n, a, e := site.Do(s, c)
		switch {
		case e != want:
			t.Fatalf("%v of %v: %d, and Check %d", c, s, e, want)
		case e != api.OK && (!same(n, api.Site{}) || a != (api.Answer{})):
			t.Fatalf("%v of %v: with an error come %v %v", c, s, n, a)
		case e == api.OK && a.Err != api.OK && (!same(n, s) || a != (api.Answer{Err: a.Err})):
			t.Fatalf("%v of %v: with an Err come %v %v", c, s, n, a)
		case e == api.OK && site.Check(n) != api.OK:
			t.Fatalf("%v of %v: %v is wrong", c, s, n)
		}
	}
	for range 300 {
		l := make([]api.Cmd, r.Intn(202))
		for i := range l {
			l[i] = api.Cmd{Op: r.Intn(18), A: odd(r), B: odd(r), C: odd(r), At: of(odd(r), odd(r)), Rule: api.Rule{Min: odd(r), Max: odd(r), Usual: odd(r), Cool: odd(r)}}
		}
		s, answers, e := site.Play(l)
		if e == api.OK && (len(answers) != len(l) || site.Check(s) != api.OK) || (e != api.OK) != (len(l) > 200) {
			t.Fatalf("Play of %v: %v %v %d", l, s, answers, e)
		}
	}
}

// spare is l with room behind it, filled with x.
func spare[T any](l []T, x T) []T {
	n := slices.Repeat([]T{x}, len(l)+4)
	return n[:copy(n, l)]
}

// roomy is base, with spare room behind each list, and something in it.
func roomy() api.Site {
	s := base()
	s.Book.Pools, s.Net.Vpcs, s.Net.Links = spare(s.Book.Pools, api.Pool{Id: -5}), spare(s.Net.Vpcs, api.Vpc{Id: -5}), spare(s.Net.Links, api.Link{A: -5})
	for i := range s.Book.Pools {
		s.Book.Pools[i].Leases = spare(s.Book.Pools[i].Leases, cooling(of(-5, -5), -5))
	}
	for i := range s.Net.Vpcs {
		v := &s.Net.Vpcs[i]
		v.Ranges, v.Subs = spare(v.Ranges, ranged(of(-5, -5), -5)), spare(v.Subs, api.Sub{Id: -5})
		for j := range v.Subs {
			v.Subs[j].Faces = spare(v.Subs[j].Faces, api.Face{Id: -5})
			for k, f := range v.Subs[j].Faces {
				v.Subs[j].Faces[k].Addrs = spare(f.Addrs, -5)
			}
		}
	}
	return s
}

// whole is s with the spare room of its lists.
func whole(s api.Site) api.Site {
	var n api.Site
	n.Book = api.Book{Tick: s.Book.Tick, Pools: slices.Clone(s.Book.Pools[:cap(s.Book.Pools)])}
	n.Net = api.Net{Links: s.Net.Links[:cap(s.Net.Links)], Vpcs: slices.Clone(s.Net.Vpcs[:cap(s.Net.Vpcs)])}
	for i, p := range n.Book.Pools {
		n.Book.Pools[i].Leases = p.Leases[:cap(p.Leases)]
	}
	for i := range n.Net.Vpcs {
		v := &n.Net.Vpcs[i]
		v.Ranges, v.Subs = v.Ranges[:cap(v.Ranges)], slices.Clone(v.Subs[:cap(v.Subs)])
		for j, u := range v.Subs {
			v.Subs[j].Faces = slices.Clone(u.Faces[:cap(u.Faces)])
			for k, f := range v.Subs[j].Faces {
				v.Subs[j].Faces[k].Addrs = f.Addrs[:cap(f.Addrs)]
			}
		}
	}
	return n
}

// A list is a list of a site, by what it can be asked to do with all of its room.
type list struct {
	mark   func(m int)
	marked func(m int) bool
}

// asList is l, whose elements have the number that at leads to.
func asList[T any](l []T, at func(*T) *int) list {
	l = l[:cap(l)]
	return list{
		func(m int) {
			for i := range l {
				*at(&l[i]) = m
			}
		},
		func(m int) bool { return !slices.ContainsFunc(l, func(x T) bool { return *at(&x) != m }) },
	}
}

// lists are all lists of s, from the depth up.
func lists(s api.Site) []list {
	var l []list
	for _, p := range s.Book.Pools {
		l = append(l, asList(p.Leases, func(x *api.Lease) *int { return &x.Owner }))
	}
	for _, v := range s.Net.Vpcs {
		for _, u := range v.Subs {
			for _, f := range u.Faces {
				l = append(l, asList(f.Addrs, func(a *int) *int { return a }))
			}
			l = append(l, asList(u.Faces, func(f *api.Face) *int { return &f.Id }))
		}
		l = append(l, asList(v.Subs, func(u *api.Sub) *int { return &u.Id }), asList(v.Ranges, func(r *api.Range) *int { return &r.Pool }))
	}
	return append(l, asList(s.Book.Pools, func(p *api.Pool) *int { return &p.Id }),
		asList(s.Net.Vpcs, func(v *api.Vpc) *int { return &v.Id }), asList(s.Net.Links, func(l *api.Link) *int { return &l.A }))
}

// shares tells whether two lists of s share memory; all of them are written over.
func shares(s api.Site) bool {
	all := lists(s)
	for i, l := range all {
		l.mark(1000 + i)
	}
	for i, l := range all {
		if !l.marked(1000 + i) {
			return true
		}
	}
	return false
}

// asked are commands that base does, and some that it does not.
func asked() []api.Cmd {
	var l []api.Cmd
	for _, d := range deeds {
		l = append(l, d.c)
	}
	for _, c := range refusals {
		l = append(l, c.c)
	}
	return l
}

// TestP2: what is handed in, and the spare room behind it, stays; an answer is new memory.
func TestP2(t *testing.T) {
	for _, c := range asked() {
		s := roomy()
		n, _, e := site.Do(s, c)
		if e != api.OK {
			t.Fatalf("%v: %d", c, e)
		}
		if shares(n) {
			t.Errorf("%v: two lists of the answer share memory", c)
		}
		if !same(whole(s), whole(roomy())) {
			t.Errorf("%v: what was handed in is changed: %v", c, whole(s))
		}
	}
	s := roomy()
	if e := site.Check(s); e != api.OK || !same(whole(s), whole(roomy())) {
		t.Errorf("Check: %d, and %v", e, whole(s))
	}
	l := spare(example, api.Cmd{Op: -5})
	n, answers, _ := site.Play(l)
	clear(answers[:cap(answers)])
	if shares(n) || !same(l[:cap(l)], spare(example, api.Cmd{Op: -5})[:cap(l)]) {
		t.Errorf("Play: the lists of the answer share memory, or what was handed in is changed: %v", l[:cap(l)])
	}
}

// TestP3: the same call has the same answer, whatever was asked in between.
func TestP3(t *testing.T) {
	s := base()
	for _, d := range deeds {
		n, a, _ := site.Do(s, d.c)
		for _, other := range deeds {
			site.Do(s, other.c)
			site.Do(n, other.c)
		}
		site.Play(example)
		if m, b, _ := site.Do(s, d.c); !same(n, m) || a != b {
			t.Errorf("%v: %v %v, then %v %v", d.c, n, a, m, b)
		}
	}
}

// TestP4: far more than there may be is told, as the chapter says.
func TestP4(t *testing.T) {
	if s, l, e := site.Play(make([]api.Cmd, 1<<18)); !same(s, api.Site{}) || len(l) != 0 || e != api.ErrMany {
		t.Errorf("Play: %v, %d answers, %d", s, len(l), e)
	}
	for name, c := range map[string]struct {
		turn func(s *api.Site)
		e    api.Errno
	}{
		"pools":     {func(s *api.Site) { s.Book.Pools = make([]api.Pool, 1<<18) }, api.ErrMany},
		"leases":    {func(s *api.Site) { *leases(s, 0) = make([]api.Lease, 1<<18) }, api.ErrForm},
		"networks":  {func(s *api.Site) { s.Net.Vpcs = make([]api.Vpc, 1<<18) }, api.ErrMany},
		"links":     {func(s *api.Site) { s.Net.Links = make([]api.Link, 1<<18) }, api.ErrMany},
		"ranges":    {func(s *api.Site) { s.Net.Vpcs[0].Ranges = make([]api.Range, 1<<18) }, api.ErrForm},
		"addresses": {func(s *api.Site) { s.Net.Vpcs[0].Subs[0].Faces[0].Addrs = make([]int, 1<<18) }, api.ErrForm},
	} {
		s := with(c.turn)
		if e := site.Check(s); e != c.e {
			t.Errorf("Check of many %s: %d, not %d", name, e, c.e)
		}
		if n, a, e := site.Do(s, api.Cmd{Op: api.OpTick, A: 1}); !same(n, api.Site{}) || a != (api.Answer{}) || e != c.e {
			t.Errorf("Do with many %s: %v %v %d, not %d", name, n, a, e, c.e)
		}
	}
}
