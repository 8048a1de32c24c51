package net_test

import (
	"math"
	"math/rand"
	"slices"
	"testing"

	"parcelway/api"
	"parcelway/net"
)

// A step is one call, with what it is handed.
type step struct {
	what, a, b int
	r          api.Range
}

// do it by package net.
func (s step) do(n api.Net) (m api.Net, ids []int, e api.Errno) {
	switch s.what {
	case 0:
		m, e = net.Make(n, s.a)
	case 1:
		m, e = net.Grow(n, s.a, s.r)
	case 2:
		m, e = net.Join(n, s.a, s.b)
	case 3:
		m, e = net.Part(n, s.a, s.b)
	default:
		ids, e = net.Group(n, s.a)
	}
	return m, ids, e
}

// model does it by the model.
func (s step) model(m *model) (ids []int, e api.Errno) {
	switch s.what {
	case 0:
		e = m.make(s.a)
	case 1:
		e = m.grow(s.a, s.r)
	case 2:
		e = m.join(s.a, s.b)
	case 3:
		e = m.part(s.a, s.b)
	default:
		ids, e = m.group(s.a)
	}
	return ids, e
}

// pick is one of these.
func pick[T any](r *rand.Rand, l ...T) T { return l[r.Intn(len(l))] }

// drawStep is a step; sparse tells that there are few ranges, and so many links.
func drawStep(r *rand.Rand, sparse bool) step {
	s := step{what: pick(r, 0, 1, 1, 1, 1, 2, 2, 2, 3, 4), a: 1 + r.Intn(7), b: 1 + r.Intn(7)}
	if sparse {
		s.what = pick(r, 0, 2, 2, 2, 2, 2, 2, 2, 2, 2, 3, 4)
	}
	l := 11 + r.Intn(4)
	s.r = api.Range{At: of(256+r.Intn(256)>>(16-l)<<(16-l), l), Pool: 1 + r.Intn(4)}
	if r.Intn(20) == 0 {
		s.a, s.r.Pool = pick(r, 0, -1, 65537, s.a, s.a), pick(r, 0, -1, 65537)
	}
	return s
}

// apart tells whether no two networks of one group have an address in common.
func apart(n api.Net) bool {
	for _, v := range n.Vpcs {
		g := reach(n.Links, v.Id)
		for _, w := range n.Vpcs {
			if v.Id != w.Id && g[w.Id] && clash(v, w) {
				return false
			}
		}
	}
	return true
}

// TestE1E2E3Play: long scripts, held against the model; and that no two networks of one group have an address in common, whatever is asked.
func TestE1E2E3Play(t *testing.T) {
	seen := map[[2]int]int{}
	for seed := range int64(80) {
		r := rand.New(rand.NewSource(seed))
		var n api.Net
		m := &model{vpcs: map[int]map[api.Prefix]int{}, links: map[api.Link]bool{}}
		for i := range 300 {
			s := drawStep(r, seed%4 == 0)
			got, ids, e := s.do(n)
			others, f := s.model(m)
			want := m.net()
			if f != api.OK || s.what == 4 {
				want = api.Net{}
			}
			if !slices.Equal(ids, others) || e != f || !same(got, want) {
				t.Fatalf("%d, %d: %+v of %v:\nit is %v %v %d,\nand must be %v %v %d", seed, i, s, n, got, ids, e, want, others, f)
			}
			seen[[2]int{s.what, int(e)}]++
			if e != api.OK || s.what == 4 {
				continue
			}
			if net.Check(got) != api.OK || check(got) != api.OK || !apart(got) {
				t.Fatalf("%d, %d: %+v: then the net is wrong: %v", seed, i, s, got)
			}
			n = got
		}
	}
	for what, l := range [][]api.Errno{
		{api.OK, api.ErrRange, api.ErrThere, api.ErrMany},
		{api.OK, api.ErrNone, api.ErrForm, api.ErrThere, api.ErrMany, api.ErrBusy},
		{api.OK, api.ErrRange, api.ErrNone, api.ErrThere, api.ErrBusy, api.ErrMany},
		{api.OK, api.ErrNone}, {api.OK, api.ErrNone}} {
		for _, e := range l {
			if seen[[2]int{what, int(e)}] == 0 {
				t.Errorf("the scripts never had the call %d answer %d", what, e)
			}
		}
	}
}

// steps are calls, one at least of each kind, that base answers without an error.
var steps = []step{
	{what: 0, a: 3}, {what: 0, a: 65535},
	{what: 1, a: 1, r: ranged(0, 8)}, {what: 1, a: 2, r: ranged(2048, 8)}, {what: 1, a: 4, r: ranged(1024, 8)},
	{what: 2, a: 4, b: 1},
	{what: 3, a: 1, b: 2}, {what: 3, a: 65536, b: 5},
	{what: 4, a: 4},
}

// spare is l with room behind it, filled with x.
func spare[T any](l []T, x T) []T {
	n := slices.Repeat([]T{x}, len(l)+4)
	return n[:copy(n, l)]
}

// roomy is base, with spare room behind each list, and something in it.
func roomy() api.Net {
	n := base()
	n.Links, n.Vpcs = spare(n.Links, link(-5, -5)), spare(n.Vpcs, vpc(-5))
	for i := range n.Vpcs {
		v := &n.Vpcs[i]
		v.Ranges, v.Subs = spare(v.Ranges, ranged(-5, -5)), spare(v.Subs, api.Sub{Id: -5})
		for j := range v.Subs {
			v.Subs[j].Faces = spare(v.Subs[j].Faces, api.Face{Id: -5})
			for k, f := range v.Subs[j].Faces {
				v.Subs[j].Faces[k].Addrs = spare(f.Addrs, -5)
			}
		}
	}
	return n
}

// whole is n with the spare room of its lists.
func whole(n api.Net) api.Net {
	m := api.Net{Links: n.Links[:cap(n.Links)], Vpcs: slices.Clone(n.Vpcs[:cap(n.Vpcs)])}
	for i := range m.Vpcs {
		v := &m.Vpcs[i]
		v.Ranges, v.Subs = v.Ranges[:cap(v.Ranges)], slices.Clone(v.Subs[:cap(v.Subs)])
		for j, s := range v.Subs {
			v.Subs[j].Faces = slices.Clone(s.Faces[:cap(s.Faces)])
			for k, f := range v.Subs[j].Faces {
				v.Subs[j].Faces[k].Addrs = f.Addrs[:cap(f.Addrs)]
			}
		}
	}
	return m
}

// A list is a list of a net, by what it can be asked to do with all of its room.
type list struct {
	mark   func(m int)
	marked func(m int) bool
}

// asList is l, whose elements have the number that at leads to.
func asList[T any](l []T, at func(*T) *int) list {
	l = l[:cap(l)]
	return list{
		func(m int) {
			for i := range l {
				*at(&l[i]) = m
			}
		},
		func(m int) bool { return !slices.ContainsFunc(l, func(x T) bool { return *at(&x) != m }) },
	}
}

// lists are all lists of n, from the depth up.
func lists(n api.Net) []list {
	var l []list
	for _, v := range n.Vpcs {
		for _, s := range v.Subs {
			for _, f := range s.Faces {
				l = append(l, asList(f.Addrs, func(a *int) *int { return a }))
			}
			l = append(l, asList(s.Faces, func(f *api.Face) *int { return &f.Id }))
		}
		l = append(l, asList(v.Subs, func(s *api.Sub) *int { return &s.Id }), asList(v.Ranges, func(r *api.Range) *int { return &r.Pool }))
	}
	return append(l, asList(n.Vpcs, func(v *api.Vpc) *int { return &v.Id }), asList(n.Links, func(l *api.Link) *int { return &l.A }))
}

// TestP2: what is handed in, and the spare room behind it, stays; an answer is new memory.
func TestP2(t *testing.T) {
	for _, s := range steps {
		n := roomy()
		m, ids, e := s.do(n)
		if e != api.OK {
			t.Fatalf("%+v: %d", s, e)
		}
		clear(ids[:cap(ids)])
		all := lists(m)
		for i, l := range all {
			l.mark(1000 + i)
		}
		for i, l := range all {
			if !l.marked(1000 + i) {
				t.Errorf("%+v: two lists of the answer share memory", s)
			}
		}
		if !same(whole(n), whole(roomy())) {
			t.Errorf("%+v: what was handed in is changed: %v", s, whole(n))
		}
	}
	n := roomy()
	if e := net.Check(n); e != api.OK || !same(whole(n), whole(roomy())) {
		t.Errorf("Check: %d, and %v", e, whole(n))
	}
}

// TestP3: the same call has the same answer, whatever was asked in between.
func TestP3(t *testing.T) {
	n := base()
	for _, s := range steps {
		m, ids, e := s.do(n)
		for _, other := range steps {
			other.do(n)
			other.do(m)
		}
		if o, others, f := s.do(n); !same(m, o) || !slices.Equal(ids, others) || e != f {
			t.Errorf("%+v: %v %v %d, then %v %v %d", s, m, ids, e, o, others, f)
		}
	}
}

// TestP1: junk ends, does not panic, and has nothing but its error.
func TestP1(t *testing.T) {
	r := rand.New(rand.NewSource(3))
	odd := func() int {
		return pick(r, math.MinInt, -65536, -1, 0, 1, 2, 3, 4, 5, 8, 13, 14, 16, 17, 256, 264, 512, 1024, 65535, 65536, 65537, math.MaxInt)
	}
	for range 40000 {
		n := base()
		for range r.Intn(3) {
			l, v := &n.Links[r.Intn(3)], &n.Vpcs[r.Intn(2)]
			*pick(r, &l.A, &l.B, &n.Vpcs[2].Id, &v.Id, &v.Ranges[0].At.At, &v.Ranges[0].At.Len, &v.Ranges[0].Pool, &n.Vpcs[1].Subs[0].Id, &n.Vpcs[1].Subs[0].Faces[0].Addrs[0]) = odd()
		}
		s := step{what: r.Intn(5), a: odd(), b: odd(), r: api.Range{At: of(odd(), odd()), Pool: odd()}}
		want := net.Check(n)
		m, ids, e := s.do(n)
		switch {
		case want != check(n) || want != api.OK && e != want:
			t.Fatalf("%+v of %v: %d, and Check %d", s, n, e, want)
		case e != api.OK && (!none(m) || len(ids) != 0):
			t.Fatalf("%+v of %v: with an error come %v %v", s, n, m, ids)
		case e == api.OK && net.Check(m) != api.OK:
			t.Fatalf("%+v of %v: %v is wrong", s, n, m)
		}
	}
}
