package route_test

import (
	"math"
	"math/rand"
	"slices"
	"testing"

	"parcelway/api"
	"parcelway/net"
	"parcelway/route"
)

// of is a prefix.
func of(at, size int) api.Prefix { return api.Prefix{At: at, Len: size} }

// to is a route.
func to(at, size, id int) api.Route { return api.Route{At: of(at, size), To: id} }

// vpc is a network with these ranges, of the pools 7, 8 ..
func vpc(id int, l ...api.Prefix) api.Vpc {
	v := api.Vpc{Id: id}
	for i, p := range l {
		v.Ranges = append(v.Ranges, api.Range{At: p, Pool: 7 + i})
	}
	return v
}

// base is a right net: 1 is joined with 2 and 5, 2 with 4; 9 is by itself, and has what 1 has.
func base() api.Net {
	return api.Net{
		Vpcs: []api.Vpc{
			vpc(1, of(256, 10), of(1024, 8)), vpc(2, of(0, 9), of(512, 16)), vpc(4, of(2048, 8)),
			vpc(5, of(128, 9), of(513, 16), of(65535, 16)), vpc(9, of(256, 8))},
		Links: []api.Link{{A: 1, B: 2}, {A: 1, B: 5}, {A: 2, B: 4}}}
}

var tables = map[int][]api.Route{
	1: {to(0, 9, 2), to(128, 9, 5), to(256, 10, 1), to(512, 16, 2), to(513, 16, 5), to(1024, 8, 1), to(65535, 16, 5)},
	2: {to(0, 9, 2), to(256, 10, 1), to(512, 16, 2), to(1024, 8, 1), to(2048, 8, 4)},
	4: {to(0, 9, 2), to(512, 16, 2), to(2048, 8, 4)},
	5: {to(128, 9, 5), to(256, 10, 1), to(513, 16, 5), to(1024, 8, 1), to(65535, 16, 5)},
	9: {to(256, 8, 9)},
}

func TestF1Table(t *testing.T) {
	for id, want := range tables {
		if l, e := route.Table(base(), id); !slices.Equal(l, want) || e != api.OK {
			t.Errorf("Table(%d): %v %d", id, l, e)
		}
	}
	n := api.Net{Vpcs: []api.Vpc{vpc(3), vpc(65536)}, Links: []api.Link{{A: 3, B: 65536}}}
	for _, id := range []int{3, 65536} {
		if l, e := route.Table(n, id); len(l) != 0 || e != api.OK {
			t.Errorf("Table(%d) of no ranges: %v %d", id, l, e)
		}
	}
	n.Vpcs[0] = vpc(3, of(0, 0))
	if l, e := route.Table(n, 65536); !slices.Equal(l, []api.Route{to(0, 0, 3)}) || e != api.OK {
		t.Errorf("Table of another one's range: %v %d", l, e)
	}
	all := api.Net{} // as many routes as a table can have
	for id := 1; id <= 6; id++ {
		all.Vpcs = append(all.Vpcs, vpc(id, of(id, 16), of(id+10, 16), of(id+20, 16), of(id+30, 16)))
		if id > 1 {
			all.Links = append(all.Links, api.Link{A: 1, B: id})
		}
	}
	l, e := route.Table(all, 1)
	if len(l) != 24 || e != api.OK || !slices.IsSortedFunc(l, func(r, s api.Route) int { return r.At.At - s.At.At }) {
		t.Errorf("the greatest Table: %v %d", l, e)
	}
}

func TestF1TableErrors(t *testing.T) {
	for _, id := range []int{3, 0, -1, 6, 65537, math.MinInt, math.MaxInt} {
		if l, e := route.Table(base(), id); len(l) != 0 || e != api.ErrNone {
			t.Errorf("Table(%d): %v %d", id, l, e)
		}
	}
	wrong, linked, clash := base(), base(), base()
	wrong.Vpcs[4].Ranges[0].Pool = 0
	linked.Links[2].B = 7
	clash.Vpcs[3].Ranges[0].At = of(0, 9) // of one group with 2, not joined with it
	five := api.Net{Vpcs: []api.Vpc{{Id: 1, Ranges: make([]api.Range, 5)}}}
	for name, c := range map[string]struct {
		n api.Net
		e api.Errno
	}{
		"a pool 0": {wrong, api.ErrForm}, "a link of none": {linked, api.ErrForm}, "a clash": {clash, api.ErrForm}, "five ranges": {five, api.ErrForm},
		"seven networks": {api.Net{Vpcs: make([]api.Vpc, 7)}, api.ErrMany}, "13 links": {api.Net{Links: make([]api.Link, 13)}, api.ErrMany},
		"nothing": {api.Net{}, api.ErrNone},
	} {
		for _, id := range []int{1, 4, 7, 0} { // a wrong net is told ahead of what is not there
			if l, e := route.Table(c.n, id); len(l) != 0 || e != c.e {
				t.Errorf("%s: Table(%d): %v %d, not %d", name, id, l, e, c.e)
			}
		}
	}
}

func TestF2Find(t *testing.T) {
	l := []api.Route{to(256, 8, 1), to(0, 0, -7), to(256, 16, 3), to(256, 8, 4), to(257, 16, 5), to(257, 16, 6), to(65535, 16, 0)}
	for addr, want := range map[int]api.Route{
		0: to(0, 0, -7), 255: to(0, 0, -7), 256: to(256, 16, 3), 257: to(257, 16, 5), 258: to(256, 8, 1), 511: to(256, 8, 1), 512: to(0, 0, -7), 65534: to(0, 0, -7), 65535: to(65535, 16, 0),
	} {
		if r, ok, e := route.Find(l, addr); r != want || !ok || e != api.OK {
			t.Errorf("Find(%d): %v %v %d, not %v", addr, r, ok, e, want)
		}
	}
	for _, l := range [][]api.Route{nil, {}, {to(256, 8, 1), to(513, 16, 2)}} {
		for _, addr := range []int{0, 255, 512, 65535} {
			if r, ok, e := route.Find(l, addr); r != (api.Route{}) || ok || e != api.OK {
				t.Errorf("Find(%v, %d): %v %v %d", l, addr, r, ok, e)
			}
		}
	}
	many := slices.Repeat([]api.Route{to(0, 0, 1)}, 64)
	many[63] = to(5, 16, 2)
	if r, ok, e := route.Find(many, 5); r != to(5, 16, 2) || !ok || e != api.OK {
		t.Errorf("the last one of 64: %v %v %d", r, ok, e)
	}
}

func TestF2FindErrors(t *testing.T) {
	good := []api.Route{to(0, 0, 1)}
	for _, c := range []struct {
		name string
		l    []api.Route
		addr int
		e    api.Errno
	}{
		{"65 routes", slices.Repeat(good, 65), 0, api.ErrMany},
		{"65 routes, wrong, beyond", slices.Repeat([]api.Route{to(1, 8, 1)}, 65), -1, api.ErrMany},
		{"very many", make([]api.Route, 1<<16), 0, api.ErrMany},
		{"no multiple", []api.Route{to(1, 8, 1)}, 0, api.ErrForm},
		{"too long", []api.Route{to(0, 17, 1)}, 0, api.ErrForm},
		{"Len below 0", []api.Route{to(0, -1, 1)}, 0, api.ErrForm},
		{"At beyond", []api.Route{to(65536, 8, 1)}, 0, api.ErrForm},
		{"far off", []api.Route{to(math.MinInt, math.MaxInt, 1)}, 0, api.ErrForm},
		{"the last one wrong", []api.Route{to(0, 0, 1), to(0, 16, 1), to(1, 8, 1)}, 0, api.ErrForm},
		{"wrong, beyond", []api.Route{to(1, 8, 1)}, 65536, api.ErrForm},
		{"beyond", good, 65536, api.ErrRange},
		{"below 0", good, -1, api.ErrRange},
		{"far above", good, math.MaxInt, api.ErrRange},
		{"far below", good, math.MinInt, api.ErrRange},
		{"no routes, beyond", nil, 65536, api.ErrRange},
		{"no routes, below 0", nil, -1, api.ErrRange},
	} {
		if r, ok, e := route.Find(c.l, c.addr); r != (api.Route{}) || ok || e != c.e {
			t.Errorf("%s: %v %v %d, not %d", c.name, r, ok, e, c.e)
		}
	}
}

// holds tells whether the right prefix p has that address.
func holds(p api.Prefix, addr int) bool { return p.At <= addr && addr < p.At+1<<(16-p.Len) }

// TestF2Drawn: lists that are drawn, held against a search that goes from the greatest Len down.
func TestF2Drawn(t *testing.T) {
	r := rand.New(rand.NewSource(1))
	for range 5000 {
		var l []api.Route
		for i := range r.Intn(12) {
			n := 10 + r.Intn(7)
			l = append(l, to(r.Intn(64)>>(16-n)<<(16-n), n, i))
		}
		addr := r.Intn(64)
		var want api.Route
		is := false
		for n := 16; n >= 0 && !is; n-- {
			if i := slices.IndexFunc(l, func(r api.Route) bool { return r.At.Len == n && holds(r.At, addr) }); i >= 0 {
				want, is = l[i], true
			}
		}
		if got, ok, e := route.Find(l, addr); got != want || ok != is || e != api.OK {
			t.Fatalf("Find(%v, %d): %v %v %d, not %v %v", l, addr, got, ok, e, want, is)
		}
	}
}

// drawNet is a right net, made by calls.
func drawNet(r *rand.Rand) api.Net {
	var n api.Net
	for range 60 {
		a, b, l := 1+r.Intn(6), 1+r.Intn(6), 11+r.Intn(5)
		m, e := net.Make(n, a)
		switch r.Intn(4) {
		case 0, 1:
			m, e = net.Grow(n, a, api.Range{At: of(256+r.Intn(128)>>(16-l)<<(16-l), l), Pool: 1})
		case 2:
			m, e = net.Join(n, a, b)
		}
		if e == api.OK {
			n = m
		}
	}
	return n
}

// TestF3: in a Table no address has two routes; it leads to the network that has it.
func TestF3(t *testing.T) {
	r := rand.New(rand.NewSource(1))
	led := 0
	for range 300 {
		n := drawNet(r)
		for _, v := range n.Vpcs {
			l, e := route.Table(n, v.Id)
			if e != api.OK {
				t.Fatalf("Table(%v, %d): %d", n, v.Id, e)
			}
			for addr := 250; addr < 390; addr++ {
				var want []int // the networks that v leads to, and that have the address
				for _, w := range n.Vpcs {
					near := w.Id == v.Id || slices.Contains(n.Links, api.Link{A: v.Id, B: w.Id}) || slices.Contains(n.Links, api.Link{A: w.Id, B: v.Id})
					if near && slices.ContainsFunc(w.Ranges, func(r api.Range) bool { return holds(r.At, addr) }) {
						want = append(want, w.Id)
					}
				}
				var got []int
				for _, x := range l {
					if holds(x.At, addr) {
						got = append(got, x.To)
					}
				}
				x, ok, e := route.Find(l, addr)
				if len(got) > 1 || !slices.Equal(got, want) || e != api.OK || ok != (len(want) == 1) || ok && x.To != want[0] {
					t.Fatalf("%v, %d: %d has the routes %v, not %v; Find is %v %v %d", n, v.Id, addr, got, want, x, ok, e)
				}
				led += len(want)
			}
		}
	}
	if led < 10000 {
		t.Errorf("%d addresses alone were led anywhere", led)
	}
}

// TestF2Example6: of two routes with one prefix the first one counts.
func TestF2Example6(t *testing.T) {
	for _, l := range [][]api.Route{{to(256, 8, 1), to(256, 8, 2)}, {to(0, 0, 3), to(256, 8, 1), to(256, 8, 2), to(256, 8, 2)}} {
		if r, ok, e := route.Find(l, 300); r != to(256, 8, 1) || !ok || e != api.OK {
			t.Errorf("%v %v %d", r, ok, e)
		}
	}
}

// TestP2: what is handed in, and the spare room behind it, stays; a Table is new memory.
func TestP2(t *testing.T) {
	n := base()
	for id, want := range tables {
		l, _ := route.Table(n, id)
		clear(l[:cap(l)])
		if k, e := route.Table(n, id); !slices.Equal(k, want) || e != api.OK {
			t.Errorf("Table(%d), then: %v %d", id, k, e)
		}
	}
	room := []api.Route{to(512, 8, 1), to(256, 8, 2), to(0, 0, 3), to(-5, -5, -5), to(-5, -5, -5)}
	kept := slices.Clone(room)
	if r, ok, e := route.Find(room[:3], 300); r != to(256, 8, 2) || !ok || e != api.OK || !slices.Equal(room, kept) {
		t.Errorf("Find: %v %v %d, and %v", r, ok, e, room)
	}
}

// TestP1P3: junk ends, does not panic, and has nothing but its error; and the same each time.
func TestP1P3(t *testing.T) {
	r := rand.New(rand.NewSource(3))
	odds := []int{math.MinInt, -65536, -1, 0, 1, 2, 4, 5, 7, 8, 9, 16, 17, 256, 512, 1024, 65535, 65536, 65537, math.MaxInt}
	odd := func() int { return odds[r.Intn(len(odds))] }
	for range 20000 {
		n := base()
		for range r.Intn(3) {
			v := &n.Vpcs[r.Intn(len(n.Vpcs))]
			fields := []*int{&v.Id, &v.Ranges[0].At.At, &v.Ranges[0].At.Len, &v.Ranges[0].Pool, &n.Links[1].A, &n.Links[2].B}
			*fields[r.Intn(len(fields))] = odd()
		}
		id, addr := odd(), odd()
		l, e := route.Table(n, id)
		if want := net.Check(n); want != api.OK && e != want || e != api.OK && len(l) != 0 {
			t.Fatalf("Table(%v, %d): %v %d, and Check %d", n, id, l, e, want)
		}
		if k, f := route.Table(n, id); !slices.Equal(k, l) || f != e {
			t.Fatalf("Table(%v, %d): %v %d, then %v %d", n, id, l, e, k, f)
		}
		for range r.Intn(3) {
			l = append(l, to(odd(), odd(), odd()))
		}
		x, ok, e := route.Find(l, addr)
		if (!ok || e != api.OK) && x != (api.Route{}) || ok && e != api.OK {
			t.Fatalf("Find(%v, %d): %v %v %d", l, addr, x, ok, e)
		}
		if y, is, f := route.Find(l, addr); x != y || ok != is || e != f {
			t.Fatalf("Find(%v, %d): %v %v %d, then %v %v %d", l, addr, x, ok, e, y, is, f)
		}
	}
}
