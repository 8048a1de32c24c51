package site_test

import (
	"math"
	"slices"
	"testing"

	"parcelway/api"
	"parcelway/site"
)

// A deed is a command that is done with base, what is told, and what is other then.
type deed struct {
	c    api.Cmd
	a    api.Answer
	turn func(s *api.Site)
}

// at and addr are answers without an Err.
func at(p api.Prefix) api.Answer { return api.Answer{At: p} }
func addr(n int) api.Answer      { return api.Answer{N: n} }

var deeds = []deed{
	{api.Cmd{Op: api.OpOpen, A: 3, At: of(768, 8), Rule: wide(7)}, api.Answer{}, func(s *api.Site) {
		s.Book.Pools = slices.Insert(s.Book.Pools, 2, api.Pool{Id: 3, Root: of(768, 8), Rule: wide(7)})
	}},
	{api.Cmd{Op: api.OpNest, A: 9, B: 2, C: 11, Rule: api.Rule{Min: 12, Max: 15, Usual: 13, Cool: 9}}, at(of(608, 11)), func(s *api.Site) {
		*leases(s, 1) = append(*leases(s, 1), nested(of(608, 11), 9))
		s.Book.Pools = append(s.Book.Pools, api.Pool{Id: 9, Up: 2, Root: of(608, 11), Rule: api.Rule{Min: 12, Max: 15, Usual: 13, Cool: 9}})
	}},
	{api.Cmd{Op: api.OpTick, A: 1}, api.Answer{}, func(s *api.Site) { s.Book.Tick = 101 }},
	{api.Cmd{Op: api.OpTick, A: 2}, api.Answer{}, func(s *api.Site) {
		s.Book.Tick = 102
		*leases(s, 0) = without(*leases(s, 0), 4)
	}},
	{api.Cmd{Op: api.OpTake, A: 1, B: 14, C: 65535}, at(of(384, 14)), func(s *api.Site) {
		*leases(s, 0) = append(*leases(s, 0), user(of(384, 14), 65535))
	}},
	{api.Cmd{Op: api.OpTake, A: 4, C: 4}, at(of(272, 13)), func(s *api.Site) {
		*leases(s, 2) = append(*leases(s, 2), user(of(272, 13), 4))
	}},
	{api.Cmd{Op: api.OpGive, A: 1, At: of(320, 12)}, api.Answer{}, func(s *api.Site) { (*leases(s, 0))[1] = cooling(of(320, 12), 103) }},
	{api.Cmd{Op: api.OpGive, A: 2, At: of(576, 16)}, api.Answer{}, func(s *api.Site) { *leases(s, 1) = without(*leases(s, 1), 1) }},
	{api.Cmd{Op: api.OpMake, A: 4}, api.Answer{}, func(s *api.Site) { s.Net.Vpcs = slices.Insert(s.Net.Vpcs, 2, api.Vpc{Id: 4}) }},
	{api.Cmd{Op: api.OpGrow, A: 65536, B: 2, C: 16}, at(of(577, 16)), func(s *api.Site) {
		*leases(s, 1) = append(*leases(s, 1), user(of(577, 16), 65536))
		s.Net.Vpcs[3].Ranges = []api.Range{ranged(of(577, 16), 2)}
	}},
	{api.Cmd{Op: api.OpGrow, A: 1, B: 4, C: 0}, at(of(272, 13)), func(s *api.Site) {
		*leases(s, 2) = append(*leases(s, 2), user(of(272, 13), 1))
		s.Net.Vpcs[0].Ranges = slices.Insert(s.Net.Vpcs[0].Ranges, 1, ranged(of(272, 13), 4))
	}},
	{api.Cmd{Op: api.OpDrop, A: 1, At: of(256, 13)}, api.Answer{}, func(s *api.Site) {
		(*leases(s, 2))[0] = cooling(of(256, 13), 105)
		s.Net.Vpcs[0].Ranges = s.Net.Vpcs[0].Ranges[1:]
	}},
	{api.Cmd{Op: api.OpDrop, A: 5, At: of(512, 10)}, api.Answer{}, func(s *api.Site) {
		*leases(s, 1) = without(*leases(s, 1), 0)
		s.Net.Vpcs[2].Ranges = nil
	}},
	{api.Cmd{Op: api.OpSub, A: 5, B: 65536, At: of(512, 10)}, api.Answer{}, func(s *api.Site) {
		s.Net.Vpcs[2].Subs = []api.Sub{{Id: 65536, At: of(512, 10)}}
	}},
	{api.Cmd{Op: api.OpUnsub, A: 1, B: 2}, api.Answer{}, func(s *api.Site) { s.Net.Vpcs[0].Subs = s.Net.Vpcs[0].Subs[:1] }},
	{api.Cmd{Op: api.OpFace, A: 1, B: 1, C: 2}, addr(339), func(s *api.Site) {
		f := &s.Net.Vpcs[0].Subs[0].Faces
		*f = slices.Insert(*f, 1, api.Face{Id: 2, Addrs: []int{339}})
	}},
	{api.Cmd{Op: api.OpFace, A: 1, B: 2, C: 3}, addr(345), func(s *api.Site) {
		s.Net.Vpcs[0].Subs[1].Faces = []api.Face{{Id: 3, Addrs: []int{345}}}
	}},
	{api.Cmd{Op: api.OpMore, A: 1, B: 1, C: 1}, addr(339), func(s *api.Site) {
		s.Net.Vpcs[0].Subs[0].Faces[0].Addrs = []int{337, 339, 340}
	}},
	{api.Cmd{Op: api.OpUnface, A: 1, B: 1, C: 3}, api.Answer{}, func(s *api.Site) {
		s.Net.Vpcs[0].Subs[0].Faces = s.Net.Vpcs[0].Subs[0].Faces[:1]
	}},
	{api.Cmd{Op: api.OpJoin, A: 5, B: 2}, api.Answer{}, func(s *api.Site) { s.Net.Links = append(s.Net.Links, api.Link{A: 2, B: 5}) }},
	{api.Cmd{Op: api.OpPart, A: 2, B: 1}, api.Answer{}, func(s *api.Site) { s.Net.Links = nil }},
}

func TestG2Do(t *testing.T) {
	for _, d := range deeds {
		want := with(d.turn)
		if s, a, e := site.Do(base(), d.c); !same(s, want) || a != d.a || e != api.OK {
			t.Errorf("%v:\nit is %v %v %d,\nand must be %v %v", d.c, s, a, e, want, d.a)
		}
		if e := site.Check(want); e != api.OK {
			t.Errorf("%v: then the site is wrong: %d", d.c, e)
		}
	}
}

func TestG2Close(t *testing.T) {
	s := with(func(s *api.Site) {
		*leases(s, 2) = []api.Lease{cooling(of(264, 13), 101)}
		s.Net.Vpcs[0].Ranges = s.Net.Vpcs[0].Ranges[1:]
	})
	got, a, e := site.Do(s, api.Cmd{Op: api.OpClose, A: 4})
	(*leases(&s, 0))[0] = cooling(of(256, 10), 103)
	s.Book.Pools = s.Book.Pools[:2]
	if !same(got, s) || a != (api.Answer{}) || e != api.OK {
		t.Errorf("Close: %v %v %d", got, a, e)
	}
}

// named are of each operation the fields that it names.
var named = map[int]string{
	api.OpOpen: "A At Rule", api.OpNest: "A B C Rule", api.OpClose: "A", api.OpTick: "A", api.OpTake: "A B C", api.OpGive: "A At",
	api.OpMake: "A", api.OpGrow: "A B C", api.OpDrop: "A At", api.OpSub: "A B At", api.OpUnsub: "A B",
	api.OpFace: "A B C", api.OpMore: "A B C", api.OpUnface: "A B C", api.OpJoin: "A B", api.OpPart: "A B",
}

// littered is c with n in all fields that its operation does not name.
func littered(c api.Cmd, n int) api.Cmd {
	l := api.Cmd{Op: c.Op, A: c.A, B: n, C: n, At: of(n, n), Rule: api.Rule{Min: n, Max: n, Usual: n, Cool: n}}
	for _, x := range named[c.Op] {
		switch x {
		case 'B':
			l.B = c.B
		case 'C':
			l.C = c.C
		case 't':
			l.At = c.At
		case 'R':
			l.Rule = c.Rule
		}
	}
	return l
}

func TestG2FieldsThatAreNotNamed(t *testing.T) {
	for _, n := range []int{math.MinInt, -1, 1, 2, 12, 65536, math.MaxInt} {
		for _, d := range deeds {
			if s, a, e := site.Do(base(), littered(d.c, n)); !same(s, with(d.turn)) || a != d.a || e != api.OK {
				t.Errorf("%v: %v %v %d", littered(d.c, n), s, a, e)
			}
		}
	}
}

// refusals are commands that base does not do.
var refusals = []struct {
	c api.Cmd
	e api.Errno
}{
	{api.Cmd{Op: api.OpOpen, A: 0, At: of(768, 8), Rule: wide(1)}, api.ErrRange},
	{api.Cmd{Op: api.OpOpen, A: 1, At: of(769, 8), Rule: wide(1)}, api.ErrRange},
	{api.Cmd{Op: api.OpOpen, A: 1, At: of(768, 8), Rule: wide(1)}, api.ErrThere},
	{api.Cmd{Op: api.OpOpen, A: 3, At: of(256, 8), Rule: wide(1)}, api.ErrThere},
	{api.Cmd{Op: api.OpOpen, A: 3, At: of(768, 8), Rule: wide(-1)}, api.ErrForm},
	{api.Cmd{Op: api.OpNest, A: 0, B: 3, C: 12}, api.ErrRange},
	{api.Cmd{Op: api.OpNest, A: 1, B: 3, C: 12}, api.ErrNone},
	{api.Cmd{Op: api.OpNest, A: 1, B: 4, C: 15}, api.ErrThere},
	{api.Cmd{Op: api.OpNest, A: 3, B: 4, C: 15}, api.ErrRule},
	{api.Cmd{Op: api.OpNest, A: 3, B: 4, C: 0}, api.ErrRule},
	{api.Cmd{Op: api.OpNest, A: 3, B: 4, C: 10}, api.ErrFull},
	{api.Cmd{Op: api.OpNest, A: 3, B: 4, C: 12}, api.ErrForm},
	{api.Cmd{Op: api.OpClose, A: 3}, api.ErrNone},
	{api.Cmd{Op: api.OpClose, A: 1}, api.ErrBusy},
	{api.Cmd{Op: api.OpClose, A: 4}, api.ErrBusy},
	{api.Cmd{Op: api.OpTick, A: 0}, api.ErrRange},
	{api.Cmd{Op: api.OpTick, A: -1}, api.ErrRange},
	{api.Cmd{Op: api.OpTick, A: 1<<30 - 99}, api.ErrRange},
	{api.Cmd{Op: api.OpTick, A: math.MaxInt}, api.ErrRange},
	{api.Cmd{Op: api.OpTake, A: 1, B: 14, C: 5}, api.ErrThere},
	{api.Cmd{Op: api.OpTake, A: 3, B: 14, C: 65536}, api.ErrThere},
	{api.Cmd{Op: api.OpTake, A: 4, B: 9, C: 1}, api.ErrThere},
	{api.Cmd{Op: api.OpTake, A: 3, B: 14, C: 4}, api.ErrNone},
	{api.Cmd{Op: api.OpTake, A: 3, B: 14, C: 0}, api.ErrNone},
	{api.Cmd{Op: api.OpTake, A: 4, B: 9, C: 0}, api.ErrRange},
	{api.Cmd{Op: api.OpTake, A: 4, B: 9, C: 65537}, api.ErrRange},
	{api.Cmd{Op: api.OpTake, A: 4, B: 9, C: 4}, api.ErrRule},
	{api.Cmd{Op: api.OpTake, A: 4, B: 10, C: 4}, api.ErrFull},
	{api.Cmd{Op: api.OpGive, A: 1, At: of(336, 12)}, api.ErrBusy},
	{api.Cmd{Op: api.OpGive, A: 4, At: of(256, 13)}, api.ErrBusy},
	{api.Cmd{Op: api.OpGive, A: 2, At: of(512, 10)}, api.ErrBusy},
	{api.Cmd{Op: api.OpGive, A: 2, At: of(336, 12)}, api.ErrNone},
	{api.Cmd{Op: api.OpGive, A: 3, At: of(336, 12)}, api.ErrNone},
	{api.Cmd{Op: api.OpGive, A: 1, At: of(256, 13)}, api.ErrNone},
	{api.Cmd{Op: api.OpGive, A: 1, At: of(336, 13)}, api.ErrNone},
	{api.Cmd{Op: api.OpGive, A: 1, At: of(256, 10)}, api.ErrNone},
	{api.Cmd{Op: api.OpGive, A: 1, At: of(368, 12)}, api.ErrNone},
	{api.Cmd{Op: api.OpMake, A: 20}, api.ErrThere},
	{api.Cmd{Op: api.OpMake, A: 3}, api.ErrThere},
	{api.Cmd{Op: api.OpMake, A: 1}, api.ErrThere},
	{api.Cmd{Op: api.OpMake, A: 65536}, api.ErrThere},
	{api.Cmd{Op: api.OpMake, A: 0}, api.ErrRange},
	{api.Cmd{Op: api.OpMake, A: 65537}, api.ErrRange},
	{api.Cmd{Op: api.OpGrow, A: 3, B: 3, C: 17}, api.ErrNone},
	{api.Cmd{Op: api.OpGrow, A: 20, B: 1, C: 12}, api.ErrNone},
	{api.Cmd{Op: api.OpGrow, A: 0, B: 4, C: 15}, api.ErrNone},
	{api.Cmd{Op: api.OpGrow, A: 5, B: 3, C: 17}, api.ErrNone},
	{api.Cmd{Op: api.OpGrow, A: 5, B: 4, C: 15}, api.ErrRule},
	{api.Cmd{Op: api.OpGrow, A: 5, B: 4, C: 10}, api.ErrFull},
	{api.Cmd{Op: api.OpDrop, A: 3, At: of(336, 12)}, api.ErrNone},
	{api.Cmd{Op: api.OpDrop, A: 20, At: of(320, 12)}, api.ErrNone},
	{api.Cmd{Op: api.OpDrop, A: 5, At: of(336, 12)}, api.ErrNone},
	{api.Cmd{Op: api.OpDrop, A: 1, At: of(336, 13)}, api.ErrNone},
	{api.Cmd{Op: api.OpDrop, A: 1, At: of(336, 12)}, api.ErrBusy},
	{api.Cmd{Op: api.OpSub, A: 3, B: 0, At: of(0, 0)}, api.ErrNone},
	{api.Cmd{Op: api.OpSub, A: 5, B: 0, At: of(512, 12)}, api.ErrRange},
	{api.Cmd{Op: api.OpSub, A: 5, B: 1, At: of(512, 9)}, api.ErrRange},
	{api.Cmd{Op: api.OpSub, A: 1, B: 1, At: of(256, 14)}, api.ErrThere},
	{api.Cmd{Op: api.OpSub, A: 1, B: 3, At: of(336, 14)}, api.ErrThere},
	{api.Cmd{Op: api.OpUnsub, A: 3, B: 1}, api.ErrNone},
	{api.Cmd{Op: api.OpUnsub, A: 1, B: 3}, api.ErrNone},
	{api.Cmd{Op: api.OpUnsub, A: 1, B: 1}, api.ErrBusy},
	{api.Cmd{Op: api.OpFace, A: 3, B: 1, C: 0}, api.ErrNone},
	{api.Cmd{Op: api.OpFace, A: 1, B: 3, C: 0}, api.ErrNone},
	{api.Cmd{Op: api.OpFace, A: 1, B: 1, C: 0}, api.ErrRange},
	{api.Cmd{Op: api.OpFace, A: 1, B: 1, C: 3}, api.ErrThere},
	{api.Cmd{Op: api.OpFace, A: 2, B: 7, C: 2}, api.ErrThere},
	{api.Cmd{Op: api.OpFace, A: 2, B: 7, C: 3}, api.ErrFull},
	{api.Cmd{Op: api.OpMore, A: 3, B: 1, C: 1}, api.ErrNone},
	{api.Cmd{Op: api.OpMore, A: 1, B: 3, C: 1}, api.ErrNone},
	{api.Cmd{Op: api.OpMore, A: 1, B: 1, C: 2}, api.ErrNone},
	{api.Cmd{Op: api.OpMore, A: 2, B: 7, C: 1}, api.ErrFull},
	{api.Cmd{Op: api.OpUnface, A: 3, B: 1, C: 1}, api.ErrNone},
	{api.Cmd{Op: api.OpUnface, A: 1, B: 2, C: 1}, api.ErrNone},
	{api.Cmd{Op: api.OpUnface, A: 1, B: 1, C: 2}, api.ErrNone},
	{api.Cmd{Op: api.OpJoin, A: 3, B: 3}, api.ErrRange},
	{api.Cmd{Op: api.OpJoin, A: 1, B: 3}, api.ErrNone},
	{api.Cmd{Op: api.OpJoin, A: 2, B: 1}, api.ErrThere},
	{api.Cmd{Op: api.OpPart, A: 1, B: 5}, api.ErrNone},
	{api.Cmd{Op: api.OpPart, A: 1, B: 1}, api.ErrNone},
	{api.Cmd{Op: 0}, api.ErrKind}, {api.Cmd{Op: 17, A: 1, B: 1, C: 1}, api.ErrKind}, {api.Cmd{Op: -1, A: 1}, api.ErrKind},
	{api.Cmd{Op: 257, A: 3, At: of(768, 8), Rule: wide(0)}, api.ErrKind}, {api.Cmd{Op: math.MaxInt}, api.ErrKind}, {api.Cmd{Op: math.MinInt}, api.ErrKind},
}

func TestG2Refused(t *testing.T) {
	for _, c := range refusals {
		if s, a, e := site.Do(base(), c.c); !same(s, base()) || a != (api.Answer{Err: c.e}) || e != api.OK {
			t.Errorf("%v: %v %d, not %d; and the site is %v", c.c, a, e, c.e, s)
		}
	}
}

// TestG2Crowded: what has as much as it may have takes no more; and which error is told ahead of that.
func TestG2Crowded(t *testing.T) {
	none := api.Rule{}
	for _, c := range []struct {
		c api.Cmd
		e api.Errno
	}{
		{api.Cmd{Op: api.OpOpen, A: 9, At: of(0, 8), Rule: wide(0)}, api.ErrMany},
		{api.Cmd{Op: api.OpOpen, A: 9, At: of(0, 8), Rule: none}, api.ErrForm},
		{api.Cmd{Op: api.OpNest, A: 9, B: 2, C: 12, Rule: api.Rule{Min: 12, Max: 12, Usual: 12}}, api.ErrMany},
		{api.Cmd{Op: api.OpNest, A: 9, B: 2, C: 12, Rule: none}, api.ErrForm},
		{api.Cmd{Op: api.OpNest, A: 9, B: 8, C: 12, Rule: none}, api.ErrFull},
		{api.Cmd{Op: api.OpTake, A: 8, B: 16, C: 7}, api.ErrFull},
		{api.Cmd{Op: api.OpTake, A: 1, B: 16, C: 7}, api.ErrFull},
		{api.Cmd{Op: api.OpMake, A: 7}, api.ErrMany},
		{api.Cmd{Op: api.OpMake, A: 100}, api.ErrThere},
		{api.Cmd{Op: api.OpMake, A: 0}, api.ErrRange},
		{api.Cmd{Op: api.OpGrow, A: 1, B: 2, C: 12}, api.ErrMany},
		{api.Cmd{Op: api.OpGrow, A: 1, B: 8, C: 16}, api.ErrFull},
		{api.Cmd{Op: api.OpGrow, A: 1, B: 2, C: 17}, api.ErrRule},
		{api.Cmd{Op: api.OpGrow, A: 1, B: 9, C: 17}, api.ErrNone},
		{api.Cmd{Op: api.OpSub, A: 1, B: 7, At: of(384, 12)}, api.ErrMany},
		{api.Cmd{Op: api.OpSub, A: 1, B: 6, At: of(384, 12)}, api.ErrThere},
		{api.Cmd{Op: api.OpFace, A: 1, B: 1, C: 9}, api.ErrMany},
		{api.Cmd{Op: api.OpFace, A: 1, B: 1, C: 8}, api.ErrThere},
		{api.Cmd{Op: api.OpMore, A: 1, B: 1, C: 8}, api.ErrMany},
		{api.Cmd{Op: api.OpJoin, A: 5, B: 6}, api.ErrMany},
		{api.Cmd{Op: api.OpJoin, A: 6, B: 1}, api.ErrThere},
	} {
		if s, a, e := site.Do(crowded(), c.c); !same(s, crowded()) || a != (api.Answer{Err: c.e}) || e != api.OK {
			t.Errorf("%v: %v %d, not %d", c.c, a, e, c.e)
		}
	}
}

// example is the seventh of the document's.
var example = []api.Cmd{
	{Op: api.OpOpen, A: 1, At: of(256, 8), Rule: wide(3)},
	{Op: api.OpMake, A: 1}, {Op: api.OpMake, A: 2},
	{Op: api.OpGrow, A: 1, B: 1}, {Op: api.OpGrow, A: 2, B: 1},
	{Op: api.OpJoin, A: 1, B: 2},
	{Op: api.OpSub, A: 1, B: 1, At: of(256, 13)},
	{Op: api.OpFace, A: 1, B: 1, C: 1},
}

func TestG3Play(t *testing.T) {
	want := api.Site{
		Book: api.Book{Pools: []api.Pool{{Id: 1, Root: of(256, 8), Rule: wide(3), Leases: []api.Lease{user(of(256, 12), 1), user(of(272, 12), 2)}}}},
		Net: api.Net{
			Vpcs: []api.Vpc{
				{Id: 1, Ranges: []api.Range{ranged(of(256, 12), 1)}, Subs: []api.Sub{{Id: 1, At: of(256, 13), Faces: []api.Face{{Id: 1, Addrs: []int{257}}}}}},
				{Id: 2, Ranges: []api.Range{ranged(of(272, 12), 1)}}},
			Links: []api.Link{{A: 1, B: 2}}}}
	answers := []api.Answer{{}, {}, {}, at(of(256, 12)), at(of(272, 12)), {}, {}, addr(257)}
	s, l, e := site.Play(example)
	if !same(s, want) || !slices.Equal(l, answers) || e != api.OK {
		t.Errorf("the example: %v %v %d", s, l, e)
	}
	wrong := slices.Concat([]api.Cmd{{Op: 77}, {Op: api.OpGrow, A: 1, B: 1}}, example, []api.Cmd{{Op: api.OpTick}, {Op: api.OpGive, A: 1, At: of(256, 12)}})
	answers = slices.Concat([]api.Answer{{Err: api.ErrKind}, {Err: api.ErrNone}}, answers, []api.Answer{{Err: api.ErrRange}, {Err: api.ErrBusy}})
	s, l, e = site.Play(wrong)
	if !same(s, want) || !slices.Equal(l, answers) || e != api.OK {
		t.Errorf("with wrong commands between: %v %v %d", s, l, e)
	}
	for _, none := range [][]api.Cmd{nil, {}} {
		if s, l, e := site.Play(none); !same(s, api.Site{}) || len(l) != 0 || e != api.OK {
			t.Errorf("nothing to do: %v %v %d", s, l, e)
		}
	}
}

func TestG3Many(t *testing.T) {
	ticks := slices.Repeat([]api.Cmd{{Op: api.OpTick, A: 2}}, 200)
	if s, l, e := site.Play(ticks); !same(s, api.Site{Book: api.Book{Tick: 400}}) || !slices.Equal(l, make([]api.Answer, 200)) || e != api.OK {
		t.Errorf("200 commands: %v %v %d", s, l, e)
	}
	for _, c := range []api.Cmd{{Op: api.OpTick, A: 2}, {}} {
		if s, l, e := site.Play(append(ticks, c)); !same(s, api.Site{}) || len(l) != 0 || e != api.ErrMany {
			t.Errorf("201 commands: %v %v %d", s, l, e)
		}
	}
}
