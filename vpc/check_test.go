package vpc_test

import (
	"math"
	"math/rand"
	"testing"

	"parcelway/api"
	"parcelway/vpc"
)

var rightOnes = map[string]api.Vpc{
	"without anything":      {Id: 1},
	"the greatest Id":       {Id: 65536},
	"base":                  base(),
	"all that there can be": wide(8, 4),
	"four ranges":           parted(4, 0),
	"six subnets":           parted(4, 6),
	"a subnet is the range": with(func(v *api.Vpc) { v.Subs = []api.Sub{sub(1, 1024, 16), sub(2, 512, 13)} }),
	"the lowest address":    with(func(v *api.Vpc) { v.Subs[2].Faces = []api.Face{face(65536, 513)} }),
	"the highest address":   with(func(v *api.Vpc) { v.Subs[2].Faces = []api.Face{face(1, 518)} }),
	"all six addresses":     with(func(v *api.Vpc) { v.Subs[2].Faces = []api.Face{face(1, 515, 517), face(2, 513, 514, 516, 518)} }),
	"the last address":      {Id: 1, Ranges: []api.Range{ranged(65532, 14, 1)}, Subs: []api.Sub{sub(1, 65532, 14, face(1, 65533, 65534))}},
	"the same face twice":   with(func(v *api.Vpc) { v.Subs[1].Faces[0].Id = 2 }), // of two subnets
	"ranges side by side":   with(func(v *api.Vpc) { v.Ranges = append(v.Ranges, ranged(1025, 16, 1)) }),
}

func TestD1Right(t *testing.T) {
	for name, v := range rightOnes {
		if e := vpc.Check(v); e != api.OK || check(v) != api.OK {
			t.Errorf("%s: Check %d", name, e)
		}
	}
}

// ranges is base with these ranges, and without subnets.
func ranges(l ...api.Range) api.Vpc {
	return with(func(v *api.Vpc) { v.Ranges, v.Subs = l, nil })
}

// subs is base with these subnets.
func subs(l ...api.Sub) api.Vpc { return with(func(v *api.Vpc) { v.Subs = l }) }

// faces is base with these faces of the subnet 65536, which has the addresses 512 to 519.
func faces(l ...api.Face) api.Vpc { return with(func(v *api.Vpc) { v.Subs[2].Faces = l }) }

var wrongForms = map[string]api.Vpc{
	"nothing":                    {},
	"Id below 0":                 with(func(v *api.Vpc) { v.Id = -1 }),
	"Id too great":               with(func(v *api.Vpc) { v.Id = 65537 }),
	"Id far off":                 with(func(v *api.Vpc) { v.Id = math.MinInt }),
	"pool 0":                     ranges(ranged(256, 8, 0)),
	"pool below 0":               ranges(ranged(256, 8, -1)),
	"pool too great":             ranges(ranged(256, 8, 65537)),
	"the last pool 0":            ranges(ranged(256, 8, 1), ranged(512, 8, 0)),
	"range no multiple":          ranges(ranged(257, 8, 1)),
	"range too long":             ranges(ranged(256, 17, 1)),
	"range below 0":              ranges(ranged(-256, 8, 1)),
	"range beyond":               ranges(ranged(65536, 8, 1)),
	"range far off":              ranges(ranged(math.MaxInt, math.MaxInt, 1)),
	"ranges fall":                ranges(ranged(512, 8, 1), ranged(256, 8, 1)),
	"ranges the same":            ranges(ranged(256, 8, 1), ranged(256, 8, 2)),
	"ranges of one At":           ranges(ranged(256, 9, 1), ranged(256, 8, 1)),
	"range in the one ahead":     ranges(ranged(256, 8, 1), ranged(384, 9, 1)),
	"range in the first one":     ranges(ranged(0, 0, 1), ranged(256, 8, 1), ranged(512, 8, 1)),
	"the last two fall":          ranges(ranged(0, 8, 1), ranged(512, 8, 1), ranged(256, 8, 1)),
	"sub 0":                      subs(sub(0, 256, 9)),
	"sub below 0":                subs(sub(-1, 256, 9)),
	"sub too great":              subs(sub(65537, 256, 9)),
	"subs fall":                  subs(sub(2, 256, 9), sub(1, 384, 9)),
	"subs the same":              subs(sub(1, 256, 9), sub(1, 384, 9)),
	"sub no multiple":            subs(sub(1, 257, 9)),
	"sub too long":               subs(sub(1, 256, 17)),
	"sub below Len 0":            subs(sub(1, 0, -1)),
	"sub in no range":            subs(sub(1, 768, 16)),
	"sub greater than its range": subs(sub(1, 512, 12)),
	"sub has all":                subs(sub(1, 0, 0)),
	"sub of two ranges": with(func(v *api.Vpc) {
		*v = api.Vpc{Id: 3, Ranges: []api.Range{ranged(256, 9, 1), ranged(384, 9, 1)}, Subs: []api.Sub{sub(1, 256, 8)}}
	}),
	"sub without ranges":        with(func(v *api.Vpc) { v.Ranges = nil }),
	"subs of one prefix":        subs(sub(1, 256, 9), sub(2, 256, 9)),
	"sub in another one":        subs(sub(1, 256, 8), sub(2, 300, 16)),
	"sub has another one":       subs(sub(1, 300, 16), sub(2, 512, 13), sub(3, 256, 8)),
	"face 0":                    faces(face(0, 513)),
	"face below 0":              faces(face(-1, 513)),
	"face too great":            faces(face(65537, 513)),
	"faces fall":                faces(face(2, 513), face(1, 514)),
	"faces the same":            faces(face(1, 513), face(1, 514)),
	"no address":                faces(face(1)),
	"no address of the second":  faces(face(1, 513), face(2)),
	"addresses fall":            faces(face(1, 514, 513)),
	"addresses the same":        faces(face(1, 513, 513)),
	"the last two the same":     faces(face(1, 513, 514, 514)),
	"the first address":         faces(face(1, 512)),
	"the last address":          faces(face(1, 519)),
	"the last address behind":   faces(face(1, 513, 519)),
	"below the subnet":          faces(face(1, 511)),
	"above the subnet":          faces(face(1, 520)),
	"of another subnet":         faces(face(1, 268)),
	"far below":                 faces(face(1, math.MinInt)),
	"far above":                 faces(face(1, math.MaxInt)),
	"of two faces":              faces(face(1, 513), face(2, 513)),
	"of two faces, deep":        faces(face(1, 513, 515), face(2, 514), face(3, 516, 517), face(4, 512+3)),
	"one address, a face":       subs(sub(1, 1024, 16, face(1, 1024))),
	"two addresses, the lower":  subs(sub(1, 256, 15, face(1, 256))),
	"two addresses, the upper":  subs(sub(1, 256, 15, face(1, 257))),
	"wrong in the first subnet": with(func(v *api.Vpc) { v.Subs[0].Faces[1].Addrs[0] = 267 }),
}

var wrongMany = map[string]api.Vpc{
	"five ranges":              parted(5, 0),
	"five ranges, of nothing":  {Ranges: make([]api.Range, 5)},
	"seven subnets":            parted(1, 7),
	"seven subnets of nothing": {Id: 1, Subs: make([]api.Sub, 7)},
	"nine faces":               wide(9, 4),
	"nine faces of nothing":    {Subs: []api.Sub{{}, {Faces: make([]api.Face, 9)}}},
	"five addresses":           wide(8, 5),
	"five addresses, far in":   with(func(v *api.Vpc) { v.Id, v.Subs[1].Faces = 0, []api.Face{{}, {Addrs: make([]int, 5)}} }),
	"very many ranges":         {Id: 1, Ranges: make([]api.Range, 1<<11)},
	"very many faces":          {Id: 1, Subs: []api.Sub{{Faces: make([]api.Face, 1<<11)}}},
}

// tell holds the error of each call against want, whatever else is wrong.
func tell(t *testing.T, name string, v api.Vpc, want api.Errno) {
	t.Helper()
	if e := vpc.Check(v); e != want || check(v) != want {
		t.Errorf("%s: Check %d, not %d", name, e, want)
	}
	for _, s := range []step{{}, {sub: 1, id: 2, pool: 1, at: of(256, 8)}, {sub: 65536, id: 9, pool: 1, at: of(304, 16)}, {sub: -1, id: math.MaxInt, at: of(5, 5)}} {
		for s.what = range 7 {
			if w, told, e := s.do(v); !none(w) || told != (answer{}) || e != want {
				t.Errorf("%s: %+v: %v %v %d, not %d", name, s, w, told, e, want)
			}
		}
	}
}

func TestD1Wrong(t *testing.T) {
	for name, v := range wrongForms {
		tell(t, name, v, api.ErrForm)
	}
	for name, v := range wrongMany {
		tell(t, name, v, api.ErrMany)
	}
}

// turn changes one or more things of v, which must be in memory of its own, to something near.
func turn(r *rand.Rand, v *api.Vpc) {
	fields := []*int{&v.Id}
	for i := range v.Ranges {
		x := &v.Ranges[i]
		fields = append(fields, &x.Pool, &x.At.At, &x.At.Len)
	}
	for i := range v.Subs {
		x := &v.Subs[i]
		fields = append(fields, &x.Id, &x.At.At, &x.At.Len)
		for j := range x.Faces {
			fields = append(fields, &x.Faces[j].Id)
			for k := range x.Faces[j].Addrs {
				fields = append(fields, &x.Faces[j].Addrs[k])
			}
		}
	}
	f := pick(r, fields...)
	*f = pick(r, *f+1, *f-1, *f+2, *f-2, *f+8, *f-8, *pick(r, fields...), 0, 1, 65535, 65536, 65537)
}

// TestD1Near: networks that are right but for a thing or two, if at all.
func TestD1Near(t *testing.T) {
	r := rand.New(rand.NewSource(1))
	seen := map[api.Errno]int{}
	for range 60000 {
		v := pick(r, base, func() api.Vpc { return wide(3, 2) }, func() api.Vpc { return parted(3, 4) })()
		for range 1 + r.Intn(2) {
			turn(r, &v)
		}
		want := check(v)
		seen[want]++
		if e := vpc.Check(v); e != want {
			t.Fatalf("Check(%v) is %d, not %d", v, e, want)
		}
	}
	if seen[api.OK] < 2000 || seen[api.ErrForm] < 2000 {
		t.Errorf("too few of a kind: %v", seen)
	}
}
