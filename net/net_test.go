package net_test

import (
	"math"
	"slices"
	"testing"

	"parcelway/api"
	"parcelway/net"
)

func TestE1Group(t *testing.T) {
	for id, want := range map[int][]int{1: {1, 2, 4}, 2: {1, 2, 4}, 4: {1, 2, 4}, 5: {5, 65536}, 65536: {5, 65536}} {
		if ids, e := net.Group(base(), id); !slices.Equal(ids, want) || e != api.OK {
			t.Errorf("Group(%d): %v %d", id, ids, e)
		}
	}
	for _, id := range []int{0, -1, 3, 6, 65535, 65537, math.MinInt, math.MaxInt} {
		if ids, e := net.Group(base(), id); len(ids) != 0 || e != api.ErrNone {
			t.Errorf("Group(%d): %v %d", id, ids, e)
		}
	}
	if ids, e := net.Group(api.Net{}, 1); len(ids) != 0 || e != api.ErrNone {
		t.Errorf("Group of nothing: %v %d", ids, e)
	}
	if ids, e := net.Group(joined(6, 0), 3); !slices.Equal(ids, []int{3}) || e != api.OK {
		t.Errorf("Group of one: %v %d", ids, e)
	}
	row := joined(6, 0)
	row.Links = []api.Link{link(1, 6), link(2, 5), link(2, 6), link(3, 4), link(3, 5)}
	for id := 1; id <= 6; id++ {
		if ids, e := net.Group(row, id); !slices.Equal(ids, []int{1, 2, 3, 4, 5, 6}) || e != api.OK {
			t.Errorf("Group of a row: %v %d", ids, e)
		}
	}
}

func TestE2Make(t *testing.T) {
	for id, at := range map[int]int{3: 2, 6: 4, 65535: 4} {
		want := base()
		want.Vpcs = slices.Insert(want.Vpcs, at, api.Vpc{Id: id})
		if n, e := net.Make(base(), id); !same(n, want) || e != api.OK {
			t.Errorf("Make(%d): %v %d", id, n, e)
		}
	}
	for _, id := range []int{1, 65536} {
		if n, e := net.Make(api.Net{}, id); !same(n, api.Net{Vpcs: []api.Vpc{{Id: id}}}) || e != api.OK {
			t.Errorf("the first Make(%d): %v %d", id, n, e)
		}
	}
	full := joined(6, 0)
	for _, c := range []struct {
		n  api.Net
		id int
		e  api.Errno
	}{
		{base(), 0, api.ErrRange}, {base(), -1, api.ErrRange}, {base(), 65537, api.ErrRange}, {base(), math.MaxInt, api.ErrRange}, {full, 0, api.ErrRange},
		{base(), 1, api.ErrThere}, {base(), 65536, api.ErrThere}, {full, 6, api.ErrThere}, {full, 7, api.ErrMany},
	} {
		if n, e := net.Make(c.n, c.id); !none(n) || e != c.e {
			t.Errorf("Make(%v, %d): %v %d, not %d", c.n, c.id, n, e, c.e)
		}
	}
}

func TestE2Grow(t *testing.T) {
	for _, c := range []struct {
		id int
		r  api.Range
		v  int // which network it is
		at int // where among its ranges the new one is
	}{
		{1, ranged(0, 8), 0, 0}, {1, ranged(384, 9), 0, 1}, {1, ranged(1024, 8), 0, 1}, {2, ranged(384, 9), 1, 1}, {4, ranged(768, 9), 2, 0},
		{5, ranged(320, 10), 3, 1}, {65536, ranged(512, 8), 4, 0}, {65536, api.Range{At: of(65535, 16), Pool: 65536}, 4, 1},
	} {
		want := base()
		want.Vpcs[c.v].Ranges = slices.Insert(want.Vpcs[c.v].Ranges, c.at, c.r)
		if n, e := net.Grow(base(), c.id, c.r); !same(n, want) || e != api.OK {
			t.Errorf("Grow(%d, %v): %v %d", c.id, c.r, n, e)
		}
	}
}

func TestE2GrowErrors(t *testing.T) {
	full := with(func(n *api.Net) {
		n.Vpcs[0].Ranges = append(n.Vpcs[0].Ranges, ranged(2048, 16), ranged(2049, 16), ranged(2050, 16))
	})
	for _, c := range []struct {
		name string
		n    api.Net
		id   int
		r    api.Range
		e    api.Errno
	}{
		{"no network", base(), 3, ranged(0, 8), api.ErrNone},
		{"network 0", base(), 0, ranged(0, 8), api.ErrNone},
		{"network far off", base(), math.MinInt, ranged(0, 8), api.ErrNone},
		{"no net", api.Net{}, 1, ranged(0, 8), api.ErrNone},
		{"no network, wrong range", base(), 3, ranged(1, 8), api.ErrNone},
		{"wrong range", base(), 1, ranged(1, 8), api.ErrForm},
		{"range of nothing", base(), 1, api.Range{}, api.ErrForm},
		{"wrong pool", base(), 1, api.Range{At: of(0, 8), Pool: 65537}, api.ErrForm},
		{"wrong pool, there and with another one", base(), 1, api.Range{At: of(0, 0)}, api.ErrForm},
		{"its own", base(), 1, ranged(256, 10), api.ErrThere},
		{"its own, and another one's", base(), 1, ranged(256, 8), api.ErrThere},
		{"its own, full", full, 1, ranged(0, 0), api.ErrThere},
		{"full", full, 1, ranged(0, 8), api.ErrMany},
		{"another one's, full", full, 1, ranged(320, 10), api.ErrMany},
		{"of the one that it is joined with", base(), 1, ranged(320, 16), api.ErrBusy},
		{"all of it, and more", base(), 1, ranged(512, 8), api.ErrBusy},
		{"of the one behind", base(), 4, ranged(256, 16), api.ErrBusy},
		{"of all", base(), 4, ranged(0, 0), api.ErrBusy},
		{"of the lesser one", base(), 65536, ranged(1024, 7), api.ErrBusy},
		{"of the greater one", base(), 5, ranged(895, 16), api.ErrBusy},
	} {
		if n, e := net.Grow(c.n, c.id, c.r); !none(n) || e != c.e {
			t.Errorf("%s: %v %d, not %d", c.name, n, e, c.e)
		}
	}
}

// lone is base without what 5 has of 1's.
func lone() api.Net {
	return with(func(n *api.Net) { n.Vpcs[3].Ranges = n.Vpcs[3].Ranges[1:] })
}

func TestE3Join(t *testing.T) {
	for _, c := range []struct{ a, b, at int }{{1, 4, 1}, {1, 5, 1}, {2, 5, 2}, {4, 5, 2}, {4, 65536, 2}, {1, 65536, 1}} {
		want := lone()
		want.Links = slices.Insert(want.Links, c.at, link(c.a, c.b))
		if n, e := net.Join(lone(), c.a, c.b); !same(n, want) || e != api.OK {
			t.Errorf("Join(%d, %d): %v %d", c.a, c.b, n, e)
		}
		if n, e := net.Join(lone(), c.b, c.a); !same(n, want) || e != api.OK {
			t.Errorf("Join(%d, %d): %v %d", c.b, c.a, n, e)
		}
	}
	if n, e := net.Join(joined(6, 11), 3, 6); !same(n, joined(6, 12)) || e != api.OK {
		t.Errorf("the last link: %v %d", n, e)
	}
	if n, e := net.Join(joined(2, 0), 2, 1); !same(n, joined(2, 1)) || e != api.OK {
		t.Errorf("the first link: %v %d", n, e)
	}
}

func TestE3JoinErrors(t *testing.T) {
	full := joined(6, 12) // it has all links but those of 4, 5, and 6
	for _, c := range []struct {
		name string
		n    api.Net
		a, b int
		e    api.Errno
	}{
		{"with itself", base(), 1, 1, api.ErrRange},
		{"none with itself", base(), 3, 3, api.ErrRange},
		{"0 with itself", base(), 0, 0, api.ErrRange},
		{"with itself, full", full, 4, 4, api.ErrRange},
		{"the lesser one is none", base(), 3, 4, api.ErrNone},
		{"the greater one is none", base(), 5, 6, api.ErrNone},
		{"both are none", base(), 7, 6, api.ErrNone},
		{"far off", base(), math.MinInt, math.MaxInt, api.ErrNone},
		{"none, full", full, 7, 1, api.ErrNone},
		{"there", base(), 1, 2, api.ErrThere},
		{"there, the other way", base(), 65536, 5, api.ErrThere},
		{"there, full", full, 6, 1, api.ErrThere},
		{"they meet", base(), 1, 5, api.ErrBusy},
		{"they meet, the other way", base(), 5, 1, api.ErrBusy},
		{"one meets another one's", base(), 2, 5, api.ErrBusy},
		{"one's meets the other one", base(), 1, 65536, api.ErrBusy},
		{"others of both meet", base(), 65536, 4, api.ErrBusy},
		{"full", full, 4, 5, api.ErrMany},
		{"full, the other way", full, 6, 4, api.ErrMany},
	} {
		if n, e := net.Join(c.n, c.a, c.b); !none(n) || e != c.e {
			t.Errorf("%s: %v %d, not %d", c.name, n, e, c.e)
		}
	}
}

func TestE3Part(t *testing.T) {
	for i, l := range base().Links {
		want := base()
		want.Links = slices.Delete(want.Links, i, i+1)
		for _, k := range []api.Link{l, link(l.B, l.A)} {
			if n, e := net.Part(base(), k.A, k.B); !same(n, want) || e != api.OK {
				t.Errorf("Part(%v): %v %d", k, n, e)
			}
		}
	}
	for _, k := range []api.Link{link(1, 4), link(4, 1), link(1, 1), link(0, 0), link(3, 4), link(1, 0), link(math.MinInt, math.MaxInt)} {
		if n, e := net.Part(base(), k.A, k.B); !none(n) || e != api.ErrNone {
			t.Errorf("Part(%v): %v %d", k, n, e)
		}
	}
}

// TestE3PartThenGrow: who is parted may have what the other one has; then they are not joined any more.
func TestE3PartThenGrow(t *testing.T) {
	n, _ := net.Part(base(), 2, 4)
	n, e := net.Grow(n, 4, ranged(256, 10))
	if e != api.OK {
		t.Fatalf("Grow: %d", e)
	}
	for _, a := range []int{1, 2, 5} {
		if m, e := net.Join(n, a, 4); !none(m) || e != api.ErrBusy {
			t.Errorf("Join(%d, 4): %v %d", a, m, e)
		}
	}
}

// TestE3Example5: two networks are joined; then the one does not take what the other one has.
func TestE3Example5(t *testing.T) {
	n, _ := net.Make(api.Net{}, 1)
	n, _ = net.Make(n, 2)
	n, _ = net.Grow(n, 1, ranged(256, 8))
	if _, e := net.Grow(n, 2, ranged(384, 9)); e != api.OK {
		t.Errorf("not joined: %d", e)
	}
	n, _ = net.Join(n, 1, 2)
	if _, e := net.Grow(n, 2, ranged(384, 9)); e != api.ErrBusy {
		t.Errorf("joined: %d", e)
	}
	if _, e := net.Grow(n, 2, ranged(512, 9)); e != api.OK {
		t.Errorf("joined, another one: %d", e)
	}
}
