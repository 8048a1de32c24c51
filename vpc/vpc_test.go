package vpc_test

import (
	"math"
	"slices"
	"testing"

	"parcelway/api"
	"parcelway/vpc"
)

func TestD2Grow(t *testing.T) {
	for _, c := range []struct {
		r  api.Range
		at int // where among the ranges it is then
	}{
		{ranged(0, 8, 1), 0}, {ranged(768, 8, 65536), 2}, {ranged(520, 13, 7), 2}, {ranged(1025, 16, 7), 3}, {ranged(65535, 16, 7), 3}, {ranged(0, 9, 7), 0},
	} {
		want := base()
		want.Ranges = slices.Insert(want.Ranges, c.at, c.r)
		if v, e := vpc.Grow(base(), c.r); !same(v, want) || e != api.OK {
			t.Errorf("Grow(%v): %v %d", c.r, v, e)
		}
	}
	all := api.Range{At: of(0, 0), Pool: 1}
	if v, e := vpc.Grow(api.Vpc{Id: 9}, all); !same(v, api.Vpc{Id: 9, Ranges: []api.Range{all}}) || e != api.OK {
		t.Errorf("the first range: %v %d", v, e)
	}
}

func TestD2GrowErrors(t *testing.T) {
	full := parted(4, 6)
	for _, c := range []struct {
		name string
		v    api.Vpc
		r    api.Range
		e    api.Errno
	}{
		{"nothing", base(), api.Range{}, api.ErrForm},
		{"pool 0", base(), ranged(768, 8, 0), api.ErrForm},
		{"pool below 0", base(), ranged(768, 8, -1), api.ErrForm},
		{"pool too great", base(), ranged(768, 8, 65537), api.ErrForm},
		{"no multiple", base(), ranged(769, 8, 1), api.ErrForm},
		{"beyond", base(), ranged(65536, 8, 1), api.ErrForm},
		{"below 0", base(), ranged(-256, 8, 1), api.ErrForm},
		{"too long", base(), ranged(768, 17, 1), api.ErrForm},
		{"far off", base(), ranged(math.MinInt, math.MaxInt, 1), api.ErrForm},
		{"pool 0, there, full", full, ranged(256, 13, 0), api.ErrForm},
		{"no multiple, full", full, ranged(1, 8, 1), api.ErrForm},
		{"there", base(), ranged(256, 8, 7), api.ErrThere},
		{"in the last one", base(), ranged(1024, 16, 1), api.ErrThere},
		{"in one", base(), ranged(511, 16, 1), api.ErrThere},
		{"has one", base(), ranged(1024, 8, 1), api.ErrThere},
		{"has all", base(), ranged(0, 0, 1), api.ErrThere},
		{"there, full", full, ranged(280, 16, 1), api.ErrThere},
		{"full", full, ranged(0, 8, 1), api.ErrMany},
	} {
		if v, e := vpc.Grow(c.v, c.r); !none(v) || e != c.e {
			t.Errorf("%s: %v %d, not %d", c.name, v, e, c.e)
		}
	}
	if v, e := vpc.Grow(parted(3, 6), ranged(280, 13, 4)); !same(v, full) || e != api.OK {
		t.Errorf("the last range: %v %d", v, e)
	}
}

func TestD2Drop(t *testing.T) {
	want := base()
	want.Ranges = want.Ranges[:2]
	if v, r, e := vpc.Drop(base(), of(1024, 16)); !same(v, want) || r != ranged(1024, 16, 1) || e != api.OK {
		t.Errorf("Drop of the last one: %v %v %d", v, r, e)
	}
	free := with(func(v *api.Vpc) { v.Subs = v.Subs[2:] })
	want = with(func(v *api.Vpc) { v.Ranges, v.Subs = v.Ranges[1:], v.Subs[2:] })
	if v, r, e := vpc.Drop(free, of(256, 8)); !same(v, want) || r != ranged(256, 8, 7) || e != api.OK {
		t.Errorf("Drop of the first one: %v %v %d", v, r, e)
	}
	for _, c := range []struct {
		name string
		p    api.Prefix
		e    api.Errno
	}{
		{"not there", of(768, 8), api.ErrNone}, {"a part of one", of(256, 9), api.ErrNone}, {"more than one", of(0, 7), api.ErrNone},
		{"another Len", of(1024, 15), api.ErrNone}, {"another At", of(1025, 16), api.ErrNone}, {"a subnet", of(264, 13), api.ErrNone},
		{"not right", of(257, 8), api.ErrNone}, {"far off", of(math.MaxInt, math.MinInt), api.ErrNone},
		{"with subnets", of(256, 8), api.ErrBusy}, {"all of it a subnet", of(512, 13), api.ErrBusy},
	} {
		if v, r, e := vpc.Drop(base(), c.p); !none(v) || r != (api.Range{}) || e != c.e {
			t.Errorf("%s: %v %v %d, not %d", c.name, v, r, e, c.e)
		}
	}
	if v, _, e := vpc.Drop(api.Vpc{Id: 1}, of(0, 0)); !none(v) || e != api.ErrNone {
		t.Errorf("Drop of nothing: %v %d", v, e)
	}
}

func TestD3Sub(t *testing.T) {
	for _, c := range []struct {
		id int
		p  api.Prefix
		at int // where among the subnets it is then
	}{{2, of(1024, 16), 1}, {3, of(260, 14), 1}, {5, of(272, 12), 2}, {65535, of(384, 9), 2}} {
		want := base()
		want.Subs = slices.Insert(want.Subs, c.at, api.Sub{Id: c.id, At: c.p})
		if v, e := vpc.Sub(base(), c.id, c.p); !same(v, want) || e != api.OK {
			t.Errorf("Sub(%d, %v): %v %d", c.id, c.p, v, e)
		}
	}
	v := base()
	v.Subs = nil
	w, e := vpc.Sub(v, 65536, of(256, 8))
	if v.Subs = []api.Sub{sub(65536, 256, 8)}; !same(v, w) || e != api.OK {
		t.Errorf("the first subnet, all of a range: %v %d", w, e)
	}
}

func TestD3SubErrors(t *testing.T) {
	full := parted(4, 6)
	for _, c := range []struct {
		name string
		v    api.Vpc
		id   int
		p    api.Prefix
		e    api.Errno
	}{
		{"Id 0", base(), 0, of(384, 9), api.ErrRange},
		{"Id below 0", base(), -1, of(384, 9), api.ErrRange},
		{"Id too great", base(), 65537, of(384, 9), api.ErrRange},
		{"no multiple", base(), 2, of(385, 9), api.ErrRange},
		{"too long", base(), 2, of(384, 17), api.ErrRange},
		{"far off", base(), 2, of(math.MinInt, math.MinInt), api.ErrRange},
		{"in no range", base(), 2, of(0, 8), api.ErrRange},
		{"more than its range", base(), 2, of(1024, 15), api.ErrRange},
		{"of two ranges", parted(4, 0), 2, of(256, 12), api.ErrRange},
		{"no range", api.Vpc{Id: 1}, 2, of(0, 16), api.ErrRange},
		{"Id 0, there, full", full, 0, of(256, 16), api.ErrRange},
		{"in no range, Id there", base(), 1, of(0, 8), api.ErrRange},
		{"in no range, full", full, 9, of(0, 8), api.ErrRange},
		{"Id there", base(), 1, of(384, 9), api.ErrThere},
		{"the last Id there", base(), 65536, of(384, 9), api.ErrThere},
		{"there", base(), 2, of(264, 13), api.ErrThere},
		{"in one", base(), 2, of(256, 16), api.ErrThere},
		{"has two", base(), 2, of(256, 8), api.ErrThere},
		{"Id there, full", full, 1, of(264, 13), api.ErrThere},
		{"there, full", full, 9, of(256, 14), api.ErrThere},
		{"full", full, 9, of(264, 13), api.ErrMany},
	} {
		if v, e := vpc.Sub(c.v, c.id, c.p); !none(v) || e != c.e {
			t.Errorf("%s: %v %d, not %d", c.name, v, e, c.e)
		}
	}
	if v, e := vpc.Sub(parted(4, 5), 6, of(261, 16)); !same(v, full) || e != api.OK {
		t.Errorf("the last subnet: %v %d", v, e)
	}
}

func TestD3Unsub(t *testing.T) {
	want := base()
	want.Subs = want.Subs[:2]
	if v, e := vpc.Unsub(base(), 65536); !same(v, want) || e != api.OK {
		t.Errorf("Unsub: %v %d", v, e)
	}
	free := with(func(v *api.Vpc) { v.Subs[1].Faces = nil })
	want.Subs = []api.Sub{want.Subs[0], sub(65536, 512, 13)}
	if v, e := vpc.Unsub(free, 4); !same(v, want) || e != api.OK {
		t.Errorf("Unsub amidst: %v %d", v, e)
	}
	for id, want := range map[int]api.Errno{1: api.ErrBusy, 4: api.ErrBusy, 2: api.ErrNone, 0: api.ErrNone, -1: api.ErrNone, 65537: api.ErrNone, math.MaxInt: api.ErrNone} {
		if v, e := vpc.Unsub(base(), id); !none(v) || e != want {
			t.Errorf("Unsub(%d): %v %d, not %d", id, v, e, want)
		}
	}
}

func TestD4Face(t *testing.T) {
	for _, c := range []struct{ sub, at, id, place, addr int }{
		{1, 0, 1, 0, 268}, {1, 0, 3, 1, 268}, {1, 0, 65536, 2, 268}, {65536, 2, 1, 0, 513},
	} {
		want := base()
		want.Subs[c.at].Faces = slices.Insert(want.Subs[c.at].Faces, c.place, face(c.id, c.addr))
		if v, a, e := vpc.Face(base(), c.sub, c.id); !same(v, want) || a != c.addr || e != api.OK {
			t.Errorf("Face(%d, %d): %v %d %d", c.sub, c.id, v, a, e)
		}
	}
	gap := faces(face(4, 513, 516), face(6, 515))
	if v, a, e := vpc.Face(gap, 65536, 5); !same(v, faces(face(4, 513, 516), face(5, 514), face(6, 515))) || a != 514 || e != api.OK {
		t.Errorf("Face in a gap: %v %d %d", v, a, e)
	}
	low := faces(face(4, 514))
	if v, a, e := vpc.Face(low, 65536, 5); !same(v, faces(face(4, 514), face(5, 513))) || a != 513 || e != api.OK {
		t.Errorf("Face below: %v %d %d", v, a, e)
	}
	last := faces(face(4, 513, 514, 515, 516), face(6, 517))
	if v, a, e := vpc.Face(last, 65536, 1); !same(v, faces(face(1, 518), face(4, 513, 514, 515, 516), face(6, 517))) || a != 518 || e != api.OK {
		t.Errorf("Face at the end: %v %d %d", v, a, e)
	}
	if v, a, e := vpc.Face(wide(7, 4), 1, 8); a != 29 || e != api.OK || len(v.Subs[0].Faces) != 8 {
		t.Errorf("the last face: %v %d %d", v, a, e)
	}
}

// tiny is a network whose subnets have one address, two, and four of which both for faces are used.
func tiny() api.Vpc {
	return api.Vpc{Id: 1, Ranges: []api.Range{ranged(256, 8, 1)}, Subs: []api.Sub{
		sub(1, 256, 16), sub(2, 258, 15), sub(3, 260, 14, face(1, 261), face(2, 262))}}
}

func TestD4FaceErrors(t *testing.T) {
	narrow := api.Vpc{Id: 1, Ranges: []api.Range{ranged(0, 0, 1)}, Subs: []api.Sub{sub(1, 0, 12)}} // eight faces, and all 14 addresses used
	for i := range 8 {
		f := face(i+1, 1+i)
		if i < 6 {
			f.Addrs = append(f.Addrs, 9+i)
		}
		narrow.Subs[0].Faces = append(narrow.Subs[0].Faces, f)
	}
	for _, c := range []struct {
		name    string
		v       api.Vpc
		sub, id int
		e       api.Errno
	}{
		{"no subnet", base(), 2, 9, api.ErrNone},
		{"subnet 0", base(), 0, 9, api.ErrNone},
		{"subnet far off", base(), math.MinInt, 9, api.ErrNone},
		{"no subnets", api.Vpc{Id: 1}, 1, 1, api.ErrNone},
		{"no subnet, Id 0", base(), 2, 0, api.ErrNone},
		{"Id 0", base(), 1, 0, api.ErrRange},
		{"Id below 0", base(), 1, -1, api.ErrRange},
		{"Id too great", base(), 1, 65537, api.ErrRange},
		{"Id 0, full", narrow, 1, 0, api.ErrRange},
		{"there", base(), 1, 2, api.ErrThere},
		{"the last one there", base(), 1, 5, api.ErrThere},
		{"there, full", base(), 4, 1, api.ErrThere},
		{"there, eight faces, full", narrow, 1, 8, api.ErrThere},
		{"eight faces", wide(8, 1), 1, 9, api.ErrMany},
		{"eight faces, full", narrow, 1, 9, api.ErrMany},
		{"full", base(), 4, 2, api.ErrFull},
		{"one address", tiny(), 1, 1, api.ErrFull},
		{"two addresses", tiny(), 2, 1, api.ErrFull},
		{"four addresses, two used", tiny(), 3, 3, api.ErrFull},
	} {
		if v, a, e := vpc.Face(c.v, c.sub, c.id); !none(v) || a != 0 || e != c.e {
			t.Errorf("%s: %v %d %d, not %d", c.name, v, a, e, c.e)
		}
	}
}

func TestD4More(t *testing.T) {
	for i, c := range []struct {
		ahead, then api.Vpc
		id, addr    int
	}{
		{faces(face(1, 513)), faces(face(1, 513, 514)), 1, 514},
		{faces(face(1, 514)), faces(face(1, 513, 514)), 1, 513},
		{faces(face(1, 513, 515)), faces(face(1, 513, 514, 515)), 1, 514},
		{faces(face(1, 513), face(2, 514)), faces(face(1, 513, 515), face(2, 514)), 1, 515},
		{faces(face(1, 514), face(9, 515, 517, 518)), faces(face(1, 514), face(9, 513, 515, 517, 518)), 9, 513},
		{faces(face(1, 513, 514), face(65536, 515, 516, 517)), faces(face(1, 513, 514), face(65536, 515, 516, 517, 518)), 65536, 518},
	} {
		if v, a, e := vpc.More(c.ahead, 65536, c.id); !same(v, c.then) || a != c.addr || e != api.OK {
			t.Errorf("%d: %v %d %d", i, v, a, e)
		}
	}
}

func TestD4MoreErrors(t *testing.T) {
	used := faces(face(1, 513, 514, 515, 516), face(2, 517, 518))
	for _, c := range []struct {
		name    string
		v       api.Vpc
		sub, id int
		e       api.Errno
	}{
		{"no subnet", base(), 2, 2, api.ErrNone},
		{"subnet 0", base(), 0, 2, api.ErrNone},
		{"no face", base(), 1, 1, api.ErrNone},
		{"a face of another subnet", base(), 4, 2, api.ErrNone},
		{"face 0", base(), 1, 0, api.ErrNone},
		{"face too great", base(), 1, 65537, api.ErrNone},
		{"no face, full", used, 65536, 3, api.ErrNone},
		{"four addresses", wide(2, 4), 1, 2, api.ErrMany},
		{"four addresses, full", used, 65536, 1, api.ErrMany},
		{"full", used, 65536, 2, api.ErrFull},
		{"full of two", base(), 4, 1, api.ErrFull},
	} {
		if v, a, e := vpc.More(c.v, c.sub, c.id); !none(v) || a != 0 || e != c.e {
			t.Errorf("%s: %v %d %d, not %d", c.name, v, a, e, c.e)
		}
	}
}

func TestD4Unface(t *testing.T) {
	for _, c := range []struct {
		sub, id int
		then    api.Vpc
	}{
		{1, 2, with(func(v *api.Vpc) { v.Subs[0].Faces = v.Subs[0].Faces[1:] })},
		{1, 5, with(func(v *api.Vpc) { v.Subs[0].Faces = v.Subs[0].Faces[:1] })},
		{4, 1, with(func(v *api.Vpc) { v.Subs[1].Faces = nil })},
	} {
		if v, e := vpc.Unface(base(), c.sub, c.id); !same(v, c.then) || e != api.OK {
			t.Errorf("Unface(%d, %d): %v %d", c.sub, c.id, v, e)
		}
	}
	for _, c := range [][2]int{{2, 2}, {0, 2}, {1, 1}, {1, 0}, {4, 2}, {65536, 2}, {1, math.MaxInt}, {math.MinInt, 2}} {
		if v, e := vpc.Unface(base(), c[0], c[1]); !none(v) || e != api.ErrNone {
			t.Errorf("Unface(%v): %v %d", c, v, e)
		}
	}
	v, _ := vpc.Unface(base(), 1, 2)
	if _, a, e := vpc.Face(v, 1, 3); a != 265 || e != api.OK {
		t.Errorf("what a face had is given again: %d %d", a, e)
	}
}

// TestD4Example4: a subnet of eight addresses has six for faces.
func TestD4Example4(t *testing.T) {
	v := faces()
	for i := range 7 {
		w, a, e := vpc.Face(v, 65536, i+1)
		if i == 6 {
			if !none(w) || a != 0 || e != api.ErrFull {
				t.Errorf("the seventh face: %v %d %d", w, a, e)
			}
			break
		}
		if a != 513+i || e != api.OK {
			t.Fatalf("face %d: %d %d", i+1, a, e)
		}
		v = w
	}
}
