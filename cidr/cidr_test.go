package cidr_test

import (
	"fmt"
	"math"
	"strings"
	"testing"

	"parcelway/api"
	"parcelway/cidr"
)

// of is a prefix.
func of(at, size int) api.Prefix { return api.Prefix{At: at, Len: size} }

// wrong prefixes, each with Check's error.
var wrong = []struct {
	p api.Prefix
	e api.Errno
}{
	{of(0, -1), api.ErrRange},
	{of(0, 17), api.ErrRange},
	{of(-1, 16), api.ErrRange},
	{of(65536, 16), api.ErrRange},
	{of(65536, 0), api.ErrRange},
	{of(-256, 8), api.ErrRange},
	{of(65537, 8), api.ErrRange}, // At is no multiple, either: ErrRange comes first
	{of(1, 17), api.ErrRange},
	{of(-3, 8), api.ErrRange},
	{of(0, math.MinInt), api.ErrRange},
	{of(0, math.MaxInt), api.ErrRange},
	{of(math.MinInt, 0), api.ErrRange},
	{of(math.MaxInt, 16), api.ErrRange},
	{of(math.MinInt, math.MinInt), api.ErrRange},
	{of(1, 0), api.ErrForm},
	{of(32768, 0), api.ErrForm},
	{of(257, 8), api.ErrForm},
	{of(128, 8), api.ErrForm},
	{of(65535, 15), api.ErrForm},
	{of(65535, 0), api.ErrForm},
}

// all goes through all right prefixes.
func all(yield func(api.Prefix) bool) {
	for size := range api.Width + 1 {
		for at := 0; at <= api.Top; at += 1 << (api.Width - size) {
			if !yield(of(at, size)) {
				return
			}
		}
	}
}

func TestA1CheckAndSize(t *testing.T) {
	for _, w := range wrong {
		if e := cidr.Check(w.p); e != w.e {
			t.Errorf("Check(%v): %d, not %d", w.p, e, w.e)
		}
		if n := cidr.Size(w.p); n != 0 {
			t.Errorf("Size(%v): %d, not 0", w.p, n)
		}
	}
	size := 65536
	for l := range api.Width + 1 {
		for at := range api.Top + 1 {
			want, n := api.OK, size
			if at%size != 0 {
				want, n = api.ErrForm, 0
			}
			if e, m := cidr.Check(of(at, l)), cidr.Size(of(at, l)); e != want || m != n {
				t.Fatalf("%v: Check %d, not %d; Size %d, not %d", of(at, l), e, want, m, n)
			}
		}
		size /= 2
	}
}

func TestA1Holds(t *testing.T) {
	for p := range all {
		last := p.At + cidr.Size(p) - 1
		for _, c := range []struct {
			addr int
			want bool
		}{{p.At, true}, {last, true}, {p.At - 1, false}, {last + 1, false}, {-1, false}, {65536, false}, {math.MinInt, false}, {math.MaxInt, false}} {
			if cidr.Holds(p, c.addr) != c.want {
				t.Fatalf("Holds(%v, %d): not %v", p, c.addr, c.want)
			}
		}
	}
	for _, w := range wrong {
		for _, addr := range []int{0, 1, w.p.At, 65535, -1, 65536} {
			if cidr.Holds(w.p, addr) {
				t.Errorf("Holds(%v, %d) of a wrong prefix", w.p, addr)
			}
		}
	}
}

// near are all prefixes that lie in 1.0/11 or have it, and some others.
func near() []api.Prefix {
	l := []api.Prefix{of(0, 16), of(255, 16), of(288, 16), of(288, 11), of(320, 10), of(384, 9), of(32768, 1), of(65535, 16)}
	for p := range all {
		if p.Len >= 11 && p.At>>5 == 256>>5 || p.Len < 11 && p.At == 256>>(16-p.Len)<<(16-p.Len) {
			l = append(l, p)
		}
	}
	return l
}

func TestA1InsideAndMeets(t *testing.T) {
	for _, p := range near() {
		for _, q := range near() {
			both := min(p.At+cidr.Size(p), q.At+cidr.Size(q)) - max(p.At, q.At)
			inside, meets := both == cidr.Size(p), both > 0
			if cidr.Inside(p, q) != inside || cidr.Meets(p, q) != meets {
				t.Errorf("%v, %v: Inside %v, Meets %v; must be %v, %v", p, q, cidr.Inside(p, q), cidr.Meets(p, q), inside, meets)
			}
		}
	}
}

func TestA1WrongIsNowhere(t *testing.T) {
	for _, w := range wrong {
		others := append(near(), w.p)
		for _, q := range others {
			if cidr.Inside(w.p, q) || cidr.Inside(q, w.p) || cidr.Meets(w.p, q) || cidr.Meets(q, w.p) {
				t.Errorf("the wrong %v is inside of, or meets, %v", w.p, q)
			}
		}
	}
}

func TestA2(t *testing.T) {
	for p := range all {
		low, high, e := cidr.Halves(p)
		if p.Len == api.Width {
			if low != of(0, 0) || high != of(0, 0) || e != api.ErrRange {
				t.Fatalf("Halves(%v): %v %v %d", p, low, high, e)
			}
			continue
		}
		if e != api.OK || low != of(p.At, p.Len+1) || high != of(p.At+cidr.Size(p)/2, p.Len+1) {
			t.Fatalf("Halves(%v): %v %v %d", p, low, high, e)
		}
		for _, h := range []api.Prefix{low, high} {
			if u, e := cidr.Up(h); u != p || e != api.OK {
				t.Fatalf("Up(%v): %v %d, not %v", h, u, e, p)
			}
		}
	}
	if u, e := cidr.Up(of(0, 0)); u != of(0, 0) || e != api.ErrRange {
		t.Errorf("Up of 0.0/0: %v %d", u, e)
	}
}

func TestA2A3WrongPrefix(t *testing.T) {
	for _, w := range wrong {
		if a, b, e := cidr.Halves(w.p); a != of(0, 0) || b != of(0, 0) || e != w.e {
			t.Errorf("Halves(%v): %v %v %d, not %d", w.p, a, b, e, w.e)
		}
		if u, e := cidr.Up(w.p); u != of(0, 0) || e != w.e {
			t.Errorf("Up(%v): %v %d, not %d", w.p, u, e, w.e)
		}
		if s, e := cidr.Show(w.p); s != "" || e != w.e {
			t.Errorf("Show(%v): %q %d, not %d", w.p, s, e, w.e)
		}
	}
}

// shown are all texts that are prefixes.
func shown() map[string]api.Prefix {
	m := map[string]api.Prefix{}
	for p := range all {
		m[fmt.Sprintf("%d.%d/%d", p.At/256, p.At%256, p.Len)] = p
	}
	return m
}

func TestA3ShowAndRead(t *testing.T) {
	for s, p := range shown() {
		if g, e := cidr.Show(p); g != s || e != api.OK {
			t.Fatalf("Show(%v): %q %d, not %q", p, g, e, s)
		}
		if g, e := cidr.Read(s); g != p || e != api.OK {
			t.Fatalf("Read(%q): %v %d, not %v", s, g, e, p)
		}
	}
}

// edits are the texts that come of s by one byte more, less, or other.
func edits(s string) []string {
	var l []string
	for i := range len(s) + 1 {
		for c := range 256 {
			l = append(l, s[:i]+string([]byte{byte(c)})+s[i:])
			if i < len(s) {
				l = append(l, s[:i]+string([]byte{byte(c)})+s[i+1:])
			}
		}
		if i < len(s) {
			l = append(l, s[:i]+s[i+1:])
		}
	}
	return l
}

func TestA3ReadWrongTexts(t *testing.T) {
	texts := []string{
		"", ".", "/", "./", "0", "0.0", "0/0", ".0/0", "0./0", "0.0/", "0.0/0/", "0.0.0/0", "0/0.0", "0/0/0", "..0/0",
		"1.2", "1/2", "1.2.3/16", "01.2/16", "1.02/16", "1.2/016", "00.0/0", "0.00/0", "0.0/00", "-0.0/0", "0.-0/0", "0.0/-0",
		"+1.2/16", "1.+2/16", "1.2/+16", "-1.2/16", "1.-2/16", "1.2/-16", "1.256/16", "256.0/16", "0.256/8", "1.2/17", "1.2/8", "1.1/15",
		" 1.0/8", "1.0/8 ", "1. 0/8", "1.0 /8", "1.0/8\n", "1.0/8\x00", "0x1.0/8", "1_0.0/8", "1.0/8.", "1,0/8", "1.0\\8", "\u0661.0/8", "\xff", "1.0/\xff",
		"72057594037927936.0/8", "18446744073709551616.0/0", "0.18446744073709551616/0", "0.0/18446744073709551616", "9999999999", "2.-256/8", "0.65535/16",
		strings.Repeat("9", 1<<20), strings.Repeat("0", 1<<20) + "1.0/8", "1.0/" + strings.Repeat("0", 1<<20), strings.Repeat("1.0/8", 1<<18), "1.0/8" + strings.Repeat(" ", 1<<20),
	}
	for _, s := range []string{"0.0/0", "1.0/8", "1.128/9", "255.255/16", "10.20/14", "9.9/16"} {
		texts = append(texts, edits(s)...)
	}
	right := shown()
	for _, s := range texts {
		p, e := cidr.Read(s)
		want, ok := right[s]
		if ok && (p != want || e != api.OK) || !ok && (p != of(0, 0) || e != api.ErrForm) {
			t.Errorf("Read(%.40q): %v %d", s, p, e)
		}
	}
}

// TestExample1: the document's first example.
func TestExample1(t *testing.T) {
	low, high, _ := cidr.Halves(of(256, 8))
	for s, p := range map[string]api.Prefix{"1.0/8": of(256, 8), "1.0/9": low, "1.128/9": high} {
		if g, e := cidr.Show(p); g != s || e != api.OK {
			t.Errorf("Show(%v): %q %d, not %q", p, g, e, s)
		}
	}
}
