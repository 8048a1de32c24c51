package vpc_test

import (
	"math"
	"math/rand"
	"slices"
	"testing"

	"parcelway/api"
	"parcelway/vpc"
)

// A step is one call, with what it is handed.
type step struct {
	what, sub, id, pool int
	at                  api.Prefix
}

// An answer is what a call tells beside the network.
type answer struct {
	r    api.Range
	addr int
}

// do it by package vpc.
func (s step) do(v api.Vpc) (n api.Vpc, a answer, e api.Errno) {
	switch s.what {
	case 0:
		n, e = vpc.Grow(v, api.Range{At: s.at, Pool: s.pool})
	case 1:
		n, a.r, e = vpc.Drop(v, s.at)
	case 2:
		n, e = vpc.Sub(v, s.sub, s.at)
	case 3:
		n, e = vpc.Unsub(v, s.sub)
	case 4:
		n, a.addr, e = vpc.Face(v, s.sub, s.id)
	case 5:
		n, a.addr, e = vpc.More(v, s.sub, s.id)
	default:
		n, e = vpc.Unface(v, s.sub, s.id)
	}
	return n, a, e
}

// model does it by the model.
func (s step) model(m *model) (a answer, e api.Errno) {
	switch s.what {
	case 0:
		e = m.grow(api.Range{At: s.at, Pool: s.pool})
	case 1:
		a.r, e = m.drop(s.at)
	case 2:
		e = m.sub(s.sub, s.at)
	case 3:
		e = m.unsub(s.sub)
	case 4:
		a.addr, e = m.face(s.sub, s.id)
	case 5:
		a.addr, e = m.more(s.sub, s.id)
	default:
		e = m.unface(s.sub, s.id)
	}
	return a, e
}

// pick is one of these.
func pick[T any](r *rand.Rand, l ...T) T { return l[r.Intn(len(l))] }

// drawStep is a step that has something to do with v, mostly.
func drawStep(r *rand.Rand, v api.Vpc) step {
	s := step{what: pick(r, 0, 0, 1, 2, 2, 2, 3, 4, 4, 4, 4, 5, 5, 5, 6), sub: 1 + r.Intn(8), id: 1 + r.Intn(10), pool: 1 + r.Intn(4)}
	s.at = of(256+32*r.Intn(4), 11+r.Intn(2))
	if s.what > 1 {
		l := 12 + r.Intn(5)
		s.at = of(256+r.Intn(128)>>(16-l)<<(16-l), l)
	}
	if s.what == 1 && len(v.Ranges) > 0 && r.Intn(8) > 0 {
		s.at = pick(r, v.Ranges...).At
	}
	if s.what > 2 && len(v.Subs) > 0 && r.Intn(8) > 0 {
		x := pick(r, v.Subs...)
		s.sub = x.Id
		if s.what > 4 && len(x.Faces) > 0 && r.Intn(8) > 0 {
			s.id = pick(r, x.Faces...).Id
		}
	}
	if r.Intn(20) == 0 {
		s.sub, s.id, s.pool = pick(r, 0, -1, 65537, s.sub), pick(r, 0, -1, 65537), pick(r, 0, -1, 65537)
	}
	return s
}

// given tells whether an address that was given to a face was nobody's, and is now that face's alone.
func given(s step, v, n api.Vpc, a int) bool {
	had, has := 0, 0
	for _, x := range v.Subs {
		for _, f := range x.Faces {
			had += len(slices.Clone(f.Addrs)) - len(slices.DeleteFunc(slices.Clone(f.Addrs), func(b int) bool { return a == b }))
		}
	}
	for _, x := range n.Subs {
		for _, f := range x.Faces {
			if slices.Contains(f.Addrs, a) {
				has++
				if x.Id != s.sub || f.Id != s.id {
					return false
				}
			}
		}
	}
	return had == 0 && has == 1
}

// TestD2D3D4Play: long scripts, held against the model; and that an address that a face is given was nobody's.
func TestD2D3D4Play(t *testing.T) {
	seen := map[[2]int]int{}
	for seed := range int64(80) {
		r := rand.New(rand.NewSource(seed))
		v := api.Vpc{Id: 7}
		m := &model{id: 7, ranges: map[api.Prefix]int{}, subs: map[int]*subnet{}}
		for i := range 400 {
			s := drawStep(r, v)
			n, a, e := s.do(v)
			b, f := s.model(m)
			want := m.vpc()
			if f != api.OK {
				want = api.Vpc{}
			}
			if a != b || e != f || !same(n, want) {
				t.Fatalf("%d, %d: %+v of %v:\nit is %v %v %d,\nand must be %v %v %d", seed, i, s, v, n, a, e, want, b, f)
			}
			seen[[2]int{s.what, int(e)}]++
			if e != api.OK {
				continue
			}
			if vpc.Check(n) != api.OK || check(n) != api.OK {
				t.Fatalf("%d, %d: %+v: then the network is wrong: %v", seed, i, s, n)
			}
			if (s.what == 4 || s.what == 5) && !given(s, v, n, a.addr) {
				t.Fatalf("%d, %d: %+v of %v: %d was somebody's: %v", seed, i, s, v, a.addr, n)
			}
			v = n
		}
	}
	for what, l := range [][]api.Errno{
		{api.OK, api.ErrForm, api.ErrThere}, {api.OK, api.ErrNone, api.ErrBusy},
		{api.OK, api.ErrRange, api.ErrThere, api.ErrMany}, {api.OK, api.ErrNone, api.ErrBusy},
		{api.OK, api.ErrNone, api.ErrRange, api.ErrThere, api.ErrMany, api.ErrFull},
		{api.OK, api.ErrNone, api.ErrMany, api.ErrFull}, {api.OK, api.ErrNone}} {
		for _, e := range l {
			if seen[[2]int{what, int(e)}] == 0 {
				t.Errorf("the scripts never had the call %d answer %d", what, e)
			}
		}
	}
}

// steps are calls, one at least of each kind, that base answers without an error.
var steps = []step{
	{what: 0, at: of(0, 8), pool: 2}, {what: 0, at: of(768, 8), pool: 2}, {what: 0, at: of(2048, 8), pool: 2},
	{what: 1, at: of(1024, 16)},
	{what: 2, sub: 2, at: of(1024, 16)}, {what: 2, sub: 70, at: of(288, 11)},
	{what: 3, sub: 65536},
	{what: 4, sub: 1, id: 1}, {what: 4, sub: 1, id: 9}, {what: 4, sub: 65536, id: 9},
	{what: 5, sub: 1, id: 2}, {what: 5, sub: 1, id: 5},
	{what: 6, sub: 1, id: 2}, {what: 6, sub: 4, id: 1},
}

// spare is l with room behind it, filled with x.
func spare[T any](l []T, x T) []T {
	n := slices.Repeat([]T{x}, len(l)+4)
	return n[:copy(n, l)]
}

// roomy is base, with spare room behind each list, and something in it.
func roomy() api.Vpc {
	v := base()
	v.Ranges = spare(v.Ranges, ranged(-5, -5, -5))
	v.Subs = spare(v.Subs, sub(-5, -5, -5))
	for i := range v.Subs {
		v.Subs[i].Faces = spare(v.Subs[i].Faces, face(-5))
		for j, f := range v.Subs[i].Faces {
			v.Subs[i].Faces[j].Addrs = spare(f.Addrs, -5)
		}
	}
	return v
}

// whole is v with the spare room of its lists.
func whole(v api.Vpc) api.Vpc {
	n := api.Vpc{Id: v.Id, Ranges: v.Ranges[:cap(v.Ranges)], Subs: slices.Clone(v.Subs[:cap(v.Subs)])}
	for i, s := range n.Subs {
		n.Subs[i].Faces = slices.Clone(s.Faces[:cap(s.Faces)])
		for j, f := range n.Subs[i].Faces {
			n.Subs[i].Faces[j].Addrs = f.Addrs[:cap(f.Addrs)]
		}
	}
	return n
}

// shares marks each list of v with a number of its own, and tells whether a mark was written over; then it clears them all.
func shares(v api.Vpc) bool {
	mark := 0
	var asks []func() bool
	for _, s := range v.Subs {
		for _, f := range s.Faces {
			mark++
			l, m := f.Addrs[:cap(f.Addrs)], mark
			for i := range l {
				l[i] = m
			}
			asks = append(asks, func() bool { return slices.ContainsFunc(l, func(a int) bool { return a != m }) })
		}
	}
	for _, s := range v.Subs {
		mark++
		l, m := s.Faces[:cap(s.Faces)], mark
		for i := range l {
			l[i].Id = m
		}
		asks = append(asks, func() bool { return slices.ContainsFunc(l, func(f api.Face) bool { return f.Id != m }) })
	}
	bad := slices.ContainsFunc(asks, func(ask func() bool) bool { return ask() })
	for _, s := range v.Subs {
		clear(s.Faces[:cap(s.Faces)])
	}
	clear(v.Subs[:cap(v.Subs)])
	clear(v.Ranges[:cap(v.Ranges)])
	return bad
}

// TestP2: what is handed in, and the spare room behind it, stays; an answer is new memory.
func TestP2(t *testing.T) {
	for _, s := range steps {
		v := roomy()
		n, _, e := s.do(v)
		if e != api.OK {
			t.Fatalf("%+v: %d", s, e)
		}
		if shares(n) {
			t.Errorf("%+v: two lists of the answer share memory", s)
		}
		if !same(whole(v), whole(roomy())) {
			t.Errorf("%+v: what was handed in is changed: %v", s, whole(v))
		}
	}
	v := roomy()
	if e := vpc.Check(v); e != api.OK || !same(whole(v), whole(roomy())) {
		t.Errorf("Check: %d, and %v", e, whole(v))
	}
}

// TestP3: the same call has the same answer, whatever was asked in between.
func TestP3(t *testing.T) {
	v := base()
	for _, s := range steps {
		n, a, e := s.do(v)
		for _, other := range steps {
			other.do(v)
			other.do(n)
		}
		if m, b, f := s.do(v); !same(n, m) || a != b || e != f {
			t.Errorf("%+v: %v %v %d, then %v %v %d", s, n, a, e, m, b, f)
		}
	}
}

// TestP1: junk ends, does not panic, and has nothing but its error.
func TestP1(t *testing.T) {
	r := rand.New(rand.NewSource(3))
	odd := func() int {
		return pick(r, math.MinInt, -65536, -1, 0, 1, 2, 3, 4, 5, 8, 13, 14, 16, 17, 256, 264, 512, 1024, 65535, 65536, 65537, math.MaxInt)
	}
	for range 40000 {
		v := base()
		for range r.Intn(3) {
			x, y := &v.Ranges[r.Intn(3)], &v.Subs[r.Intn(3)]
			*pick(r, &v.Id, &x.At.At, &x.At.Len, &x.Pool, &y.Id, &y.At.At, &y.At.Len, &v.Subs[0].Faces[0].Id, &v.Subs[0].Faces[0].Addrs[1], &v.Subs[1].Faces[0].Addrs[0]) = odd()
		}
		s := step{what: r.Intn(7), sub: odd(), id: odd(), pool: odd(), at: of(odd(), odd())}
		want := vpc.Check(v)
		n, a, e := s.do(v)
		switch {
		case want != api.OK && e != want:
			t.Fatalf("%+v of %v: %d, and Check %d", s, v, e, want)
		case e != api.OK && (!none(n) || a != (answer{})):
			t.Fatalf("%+v of %v: with an error come %v %v", s, v, n, a)
		case e == api.OK && vpc.Check(n) != api.OK:
			t.Fatalf("%+v of %v: %v is wrong", s, v, n)
		}
	}
}
