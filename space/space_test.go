package space_test

import (
	"math"
	"math/rand"
	"slices"
	"testing"

	"parcelway/api"
	"parcelway/cidr"
	"parcelway/space"
)

// of is a prefix.
func of(at, size int) api.Prefix { return api.Prefix{At: at, Len: size} }

// in is a space.
func in(root api.Prefix, used ...api.Prefix) api.Space { return api.Space{Root: root, Used: used} }

// singles are the first n addresses from at on, each a prefix.
func singles(at, n int) []api.Prefix {
	var l []api.Prefix
	for i := range n {
		l = append(l, of(at+i, 16))
	}
	return l
}

// same tells whether two spaces are the same.
func same(a, b api.Space) bool { return a.Root == b.Root && slices.Equal(a.Used, b.Used) }

// none tells whether s is an empty space: what comes with an error.
func none(s api.Space) bool { return s.Root == of(0, 0) && len(s.Used) == 0 }

var wrong = []struct {
	name string
	s    api.Space
	e    api.Errno
}{
	{"33 used", in(of(0, 0), singles(0, 33)...), api.ErrMany},
	{"33 used, and a wrong root", in(of(1, 0), singles(0, 33)...), api.ErrMany},
	{"33 used, that meet", in(of(0, 0), make([]api.Prefix, 33)...), api.ErrMany},
	{"very many used", in(of(0, 0), make([]api.Prefix, 1<<20)...), api.ErrMany},
	{"a root that is no multiple", in(of(1, 8)), api.ErrForm},
	{"a root beyond Top", in(of(65536, 16)), api.ErrForm},
	{"a root below 0", in(of(-1, 16)), api.ErrForm},
	{"a root too long", in(of(0, 17)), api.ErrForm},
	{"a root too short", in(of(0, -1)), api.ErrForm},
	{"a root far off", in(of(math.MinInt, math.MaxInt)), api.ErrForm},
	{"a used one that is no multiple", in(of(0, 0), of(1, 8)), api.ErrForm},
	{"a used one too long", in(of(0, 0), of(1, 17)), api.ErrForm},
	{"a used one below 0", in(of(0, 0), of(-1, 16)), api.ErrForm},
	{"a used one outside", in(of(0, 8), of(256, 8)), api.ErrForm},
	{"a used one just behind", in(of(256, 8), of(512, 16)), api.ErrForm},
	{"a used one just ahead", in(of(256, 8), of(255, 16)), api.ErrForm},
	{"a used one that has the root", in(of(256, 8), of(0, 7)), api.ErrForm},
	{"used ones that fall", in(of(0, 8), of(8, 14), of(0, 14)), api.ErrForm},
	{"used ones that fall at last", in(of(0, 8), of(0, 14), of(8, 14), of(4, 14)), api.ErrForm},
	{"one used twice", in(of(0, 8), of(8, 14), of(8, 14)), api.ErrForm},
	{"two with one At", in(of(0, 8), of(8, 13), of(8, 14)), api.ErrForm},
	{"two that meet", in(of(0, 8), of(0, 13), of(4, 14)), api.ErrForm},
	{"two that meet, others between", in(of(0, 8), of(0, 9), of(16, 14), of(64, 14)), api.ErrForm},
	{"two that meet at last", in(of(0, 8), of(0, 13), of(8, 13), of(15, 16)), api.ErrForm},
}

func TestB1Wrong(t *testing.T) {
	for _, w := range wrong {
		if e := space.Check(w.s); e != w.e {
			t.Errorf("%s: Check %d, not %d", w.name, e, w.e)
		}
		for _, size := range []int{16, 17, -1} { // Check's error comes ahead of ErrRange
			if p, ok, e := space.Fit(w.s, size); p != of(0, 0) || ok || e != w.e {
				t.Errorf("%s: Fit %v %v %d, not %d", w.name, p, ok, e, w.e)
			}
		}
		for _, p := range []api.Prefix{of(0, 0), of(3, 16), of(0, 17)} {
			if s, e := space.Claim(w.s, p); !none(s) || e != w.e {
				t.Errorf("%s: Claim %v %d, not %d", w.name, s, e, w.e)
			}
			if s, e := space.Free(w.s, p); !none(s) || e != w.e {
				t.Errorf("%s: Free %v %d, not %d", w.name, s, e, w.e)
			}
		}
		if l, e := space.Holes(w.s); len(l) != 0 || e != w.e {
			t.Errorf("%s: Holes %v %d, not %d", w.name, l, e, w.e)
		}
	}
}

func TestB1Right(t *testing.T) {
	for _, s := range []api.Space{
		{}, in(of(0, 0), of(0, 0)), in(of(65535, 16), of(65535, 16)), in(of(65535, 16)),
		in(of(256, 8), of(256, 16), of(511, 16)), in(of(0, 8), of(0, 9), of(128, 9)),
		in(of(0, 0), singles(0, 32)...), in(of(32, 11), singles(32, 32)...),
		{Root: of(0, 8), Used: []api.Prefix{}},
	} {
		if e := space.Check(s); e != api.OK {
			t.Errorf("Check(%v): %d", s, e)
		}
	}
}

// parts are all prefixes inside of root, those of one Len together, rising.
func parts(root api.Prefix) []api.Prefix {
	var l []api.Prefix
	for size := root.Len; size <= api.Width; size++ {
		for at := root.At; at < root.At+cidr.Size(root); at += 1 << (api.Width - size) {
			l = append(l, of(at, size))
		}
	}
	return l
}

// free tells by the document's words whether p meets no used one.
func free(s api.Space, p api.Prefix) bool {
	for _, u := range s.Used {
		if p.At < u.At+cidr.Size(u) && u.At < p.At+cidr.Size(p) {
			return false
		}
	}
	return true
}

// fit is what B2 asks for, by looking at each part.
func fit(s api.Space, size int) (api.Prefix, bool) {
	for _, p := range parts(s.Root) {
		if p.Len == size && free(s, p) {
			return p, true
		}
	}
	return api.Prefix{}, false
}

// holes are what B4 asks for, by looking at each part.
func holes(s api.Space) []api.Prefix {
	var l []api.Prefix
	for _, p := range parts(s.Root) {
		if p == s.Root && free(s, p) {
			l = append(l, p)
		} else if p != s.Root {
			size := 1 << (api.Width - p.Len + 1)
			if free(s, p) && !free(s, of(p.At/size*size, p.Len-1)) {
				l = append(l, p)
			}
		}
	}
	slices.SortFunc(l, func(a, b api.Prefix) int { return a.At - b.At })
	return l
}

// drawn is a space with some parts of root used, as they come.
func drawn(r *rand.Rand, root api.Prefix) api.Space {
	s := in(root)
	for range r.Intn(60) {
		size := root.Len + r.Intn(api.Width-root.Len+1)
		if p := of(root.At+r.Intn(1<<(size-root.Len))<<(api.Width-size), size); free(s, p) && len(s.Used) < api.MaxUsed && (size > root.Len || r.Intn(8) == 0) {
			s.Used = append(s.Used, p)
		}
	}
	slices.SortFunc(s.Used, func(a, b api.Prefix) int { return a.At - b.At })
	return s
}

// spaces are many small spaces, and some great ones.
func spaces() []api.Space {
	r := rand.New(rand.NewSource(1))
	l := []api.Space{
		{}, in(of(0, 0), of(0, 0)), in(of(0, 0), of(0, 16)), in(of(0, 0), of(65535, 16)), in(of(0, 0), of(0, 1), of(65535, 16)),
		in(of(7, 16)), in(of(7, 16), of(7, 16)), in(of(65535, 16)),
		in(of(0, 10), singles(0, 32)...), in(of(0, 11), singles(0, 32)...),
	}
	for _, root := range []api.Prefix{of(0, 16), of(2, 15), of(65532, 14), of(8, 13), of(256, 12), of(320, 11), of(64, 10), of(256, 8)} {
		for range 60 {
			l = append(l, drawn(r, root))
		}
	}
	for range 5 {
		l = append(l, drawn(r, of(0, 0)), drawn(r, of(32768, 3)))
	}
	return l
}

func TestB2Fit(t *testing.T) {
	for _, s := range spaces() {
		for size := s.Root.Len; size <= api.Width; size++ {
			want, is := fit(s, size)
			if p, ok, e := space.Fit(s, size); p != want || ok != is || e != api.OK {
				t.Fatalf("Fit(%v, %d): %v %v %d, not %v %v", s, size, p, ok, e, want, is)
			}
		}
		for _, size := range []int{s.Root.Len - 1, 17, -1, math.MinInt, math.MaxInt} {
			if p, ok, e := space.Fit(s, size); p != of(0, 0) || ok || e != api.ErrRange {
				t.Fatalf("Fit(%v, %d): %v %v %d, not ErrRange", s, size, p, ok, e)
			}
		}
	}
}

// TestB2Full: a space with as many used as may be has parts that fit.
func TestB2Full(t *testing.T) {
	if p, ok, e := space.Fit(in(of(0, 0), singles(0, 32)...), 16); p != of(32, 16) || !ok || e != api.OK {
		t.Errorf("Fit: %v %v %d", p, ok, e)
	}
}

func TestB3Claim(t *testing.T) {
	for _, s := range spaces() {
		if s.Root.Len < 8 {
			continue
		}
		for _, p := range parts(s.Root) {
			n, e := space.Claim(s, p)
			switch {
			case !free(s, p):
				if !none(n) || e != api.ErrThere {
					t.Fatalf("Claim(%v, %v): %v %d, not ErrThere", s, p, n, e)
				}
			case len(s.Used) == api.MaxUsed:
				if !none(n) || e != api.ErrMany {
					t.Fatalf("Claim(%v, %v): %v %d, not ErrMany", s, p, n, e)
				}
			default:
				want := in(s.Root, append(slices.Clone(s.Used), p)...)
				slices.SortFunc(want.Used, func(a, b api.Prefix) int { return a.At - b.At })
				if !same(n, want) || e != api.OK || space.Check(n) != api.OK {
					t.Fatalf("Claim(%v, %v): %v %d, not %v", s, p, n, e, want)
				}
			}
		}
	}
}

func TestB3ClaimRange(t *testing.T) {
	full := in(of(256, 8), singles(256, 32)...)
	for _, s := range []api.Space{in(of(256, 8)), in(of(256, 8), of(256, 8)), full} { // ErrRange comes ahead of ErrThere and ErrMany
		for _, p := range []api.Prefix{of(0, 0), of(0, 7), of(0, 8), of(512, 16), of(255, 16), of(257, 15), of(257, 8), of(256, 17), of(256, -1), of(-1, 16), of(65536, 16), of(math.MinInt, 8), of(math.MaxInt, math.MaxInt)} {
			if n, e := space.Claim(s, p); !none(n) || e != api.ErrRange {
				t.Errorf("Claim(%v, %v): %v %d, not ErrRange", s, p, n, e)
			}
		}
	}
	if n, e := space.Claim(full, of(256, 16)); !none(n) || e != api.ErrThere { // ahead of ErrMany
		t.Errorf("Claim of a used one in a full space: %v %d", n, e)
	}
	if n, e := space.Claim(full, of(511, 16)); !none(n) || e != api.ErrMany {
		t.Errorf("Claim in a full space: %v %d", n, e)
	}
	if n, e := space.Claim(in(of(256, 8), singles(256, 31)...), of(287, 16)); !same(n, full) || e != api.OK {
		t.Errorf("the last Claim: %v %d", n, e)
	}
}

func TestB3Free(t *testing.T) {
	for _, s := range spaces() {
		for i, p := range s.Used {
			want := in(s.Root, slices.Delete(slices.Clone(s.Used), i, i+1)...)
			if n, e := space.Free(s, p); !same(n, want) || e != api.OK {
				t.Fatalf("Free(%v, %v): %v %d, not %v", s, p, n, e, want)
			}
			for _, q := range []api.Prefix{of(p.At, p.Len+1), of(p.At, p.Len-1), of(p.At+1<<(api.Width-p.Len), p.Len), of(-1, 16), of(0, 99)} {
				if slices.Contains(s.Used, q) {
					continue
				}
				if n, e := space.Free(s, q); !none(n) || e != api.ErrNone {
					t.Fatalf("Free(%v, %v): %v %d, not ErrNone", s, q, n, e)
				}
			}
		}
	}
	for _, p := range []api.Prefix{of(0, 0), of(256, 8), of(0, 17), of(math.MaxInt, 3)} {
		if n, e := space.Free(in(of(256, 8)), p); !none(n) || e != api.ErrNone {
			t.Errorf("Free of %v, nothing used: %v %d", p, n, e)
		}
	}
}

func TestB4Holes(t *testing.T) {
	for _, s := range spaces() {
		l, e := space.Holes(s)
		if want := holes(s); !slices.Equal(l, want) || e != api.OK {
			t.Fatalf("Holes(%v): %v %d, not %v", s, l, e, want)
		}
	}
}

// TestB5: a prefix can be claimed just if it is inside of a hole; what was claimed and freed is as it was.
func TestB5(t *testing.T) {
	for _, s := range spaces() {
		if s.Root.Len < 8 || len(s.Used) == api.MaxUsed {
			continue
		}
		l, _ := space.Holes(s)
		for _, p := range parts(s.Root) {
			inside := slices.ContainsFunc(l, func(h api.Prefix) bool { return cidr.Inside(p, h) })
			n, e := space.Claim(s, p)
			if (e == api.OK) != inside {
				t.Fatalf("%v: inside of a hole of %v: %v; Claim %d", p, s, inside, e)
			}
			if e != api.OK {
				continue
			}
			if back, e := space.Free(n, p); !same(back, s) || e != api.OK {
				t.Fatalf("%v claimed and freed: %v %d, not %v", p, back, e, s)
			}
		}
	}
}

// TestP2: what is handed in, and the spare room behind it, stays; an answer is new memory.
func TestP2(t *testing.T) {
	room := make([]api.Prefix, 8, 16)
	copy(room, []api.Prefix{of(256, 12), of(288, 11), of(400, 16), of(401, 16), of(402, 16), of(403, 16), of(404, 16), of(405, 16)})
	before := slices.Clone(room[:16])
	s := api.Space{Root: of(256, 8), Used: room[:3]}
	check := func(what string, answer []api.Prefix, e api.Errno) {
		if e != api.OK {
			t.Errorf("%s: %d", what, e)
		}
		answer = answer[:cap(answer)]
		for i := range answer {
			answer[i] = of(-7, -7)
		}
		if !slices.Equal(room[:16], before) {
			t.Fatalf("%s: what was handed in is changed: %v", what, room[:16])
		}
	}
	for _, p := range []api.Prefix{of(272, 12), of(384, 12), of(510, 15)} {
		n, e := space.Claim(s, p)
		check("Claim", n.Used, e)
	}
	for _, p := range s.Used {
		n, e := space.Free(s, p)
		check("Free", n.Used, e)
	}
	l, e := space.Holes(s)
	check("Holes", l, e)
	_, _, e = space.Fit(s, 10)
	check("Fit", nil, e)
	check("Check", nil, space.Check(s))
}

// TestP3: the same call has the same answer, whatever was asked in between.
func TestP3(t *testing.T) {
	s := in(of(256, 8), of(320, 10))
	a, _ := space.Holes(s)
	for _, p := range []api.Prefix{of(256, 10), of(384, 9), of(1, 1)} {
		space.Claim(s, p)
		space.Free(s, p)
		space.Fit(s, p.Len)
	}
	if b, _ := space.Holes(s); !slices.Equal(a, b) {
		t.Errorf("Holes: %v, then %v", a, b)
	}
}

// TestP1: junk ends, does not panic, and has nothing but its error.
func TestP1(t *testing.T) {
	r := rand.New(rand.NewSource(2))
	odd := []int{math.MinInt, -65536, -1, 0, 1, 7, 8, 15, 16, 17, 255, 256, 65535, 65536, math.MaxInt}
	junk := func() api.Prefix { return of(odd[r.Intn(len(odd))], odd[r.Intn(len(odd))]) }
	for range 20000 {
		s := api.Space{Root: junk()}
		for range r.Intn(4) {
			s.Used = append(s.Used, junk())
		}
		p := junk()
		want := space.Check(s)
		q, ok, e := space.Fit(s, p.Len)
		n, f := space.Claim(s, p)
		m, g := space.Free(s, p)
		l, h := space.Holes(s)
		if want != api.OK && (e != want || f != want || g != want || h != want) {
			t.Fatalf("%v: Check %d, others %d %d %d %d", s, want, e, f, g, h)
		}
		if (e != api.OK || !ok) && q != of(0, 0) || e != api.OK && ok || f != api.OK && !none(n) || g != api.OK && !none(m) || h != api.OK && len(l) != 0 {
			t.Fatalf("%v, %v: with an error comes %v %v %v %v %v", s, p, q, ok, n, m, l)
		}
	}
}

// TestExample2: the document's second example.
func TestExample2(t *testing.T) {
	s, e := space.Claim(in(of(256, 8)), of(320, 10))
	if e != api.OK {
		t.Fatal(e)
	}
	l, e := space.Holes(s)
	if !slices.Equal(l, []api.Prefix{of(256, 10), of(384, 9)}) || e != api.OK {
		t.Errorf("Holes: %v %d", l, e)
	}
}
