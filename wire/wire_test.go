package wire_test

import (
	"math"
	"math/rand"
	"strings"
	"testing"

	"parcelway/api"
	"parcelway/wire"
)

// cmd is a command with these numbers.
func cmd(op int, n [9]int) api.Cmd {
	return api.Cmd{Op: op, A: n[0], B: n[1], C: n[2], At: api.Prefix{At: n[3], Len: n[4]}, Rule: api.Rule{Min: n[5], Max: n[6], Usual: n[7], Cool: n[8]}}
}

// written are commands, and their bytes.
var written = []struct {
	c api.Cmd
	s string
}{
	{api.Cmd{}, strings.Repeat("\x00", 37)},
	{cmd(1, [9]int{1, 2, 3, 4, 5, 6, 7, 8, 9}),
		"\x01\x00\x00\x00\x01\x00\x00\x00\x02\x00\x00\x00\x03\x00\x00\x00\x04\x00\x00\x00\x05\x00\x00\x00\x06\x00\x00\x00\x07\x00\x00\x00\x08\x00\x00\x00\x09"},
	{cmd(255, [9]int{-1, -1, -1, -1, -1, -1, -1, -1, -1}), strings.Repeat("\xff", 37)},
	{cmd(128, [9]int{0x01020304, -0x80000000, 0x7fffffff, -2, 256, 65536, -256, 0x7f000080, -0x7fffff80}),
		"\x80\x01\x02\x03\x04\x80\x00\x00\x00\x7f\xff\xff\xff\xff\xff\xff\xfe\x00\x00\x01\x00\x00\x01\x00\x00\xff\xff\xff\x00\x7f\x00\x00\x80\x80\x00\x00\x80"},
	{api.Cmd{Op: api.OpOpen, A: 1, At: api.Prefix{At: 256, Len: 8}, Rule: api.Rule{Min: 8, Max: 16, Usual: 12, Cool: 3}},
		"\x01\x00\x00\x00\x01\x00\x00\x00\x00\x00\x00\x00\x00\x00\x00\x01\x00\x00\x00\x00\x08\x00\x00\x00\x08\x00\x00\x00\x10\x00\x00\x00\x0c\x00\x00\x00\x03"},
}

func TestH1(t *testing.T) {
	for _, w := range written {
		if s, e := wire.Write(w.c); s != w.s || e != api.OK {
			t.Errorf("Write(%v): %x %d", w.c, s, e)
		}
		if c, e := wire.Read(w.s); c != w.c || e != api.OK {
			t.Errorf("Read(%x): %v %d", w.s, c, e)
		}
	}
}

func TestH1WriteErrors(t *testing.T) {
	for _, op := range []int{-1, 256, 257, -255, math.MinInt, math.MaxInt} {
		if s, e := wire.Write(api.Cmd{Op: op}); s != "" || e != api.ErrRange {
			t.Errorf("Write of the operation %d: %x %d", op, s, e)
		}
	}
	for i := range 9 {
		for _, x := range []int{-1<<31 - 1, 1 << 31, 1 << 32, 1<<32 + 1, -1 << 32, math.MinInt, math.MaxInt} {
			var n [9]int
			n[i] = x
			if s, e := wire.Write(cmd(1, n)); s != "" || e != api.ErrRange {
				t.Errorf("Write(%v): %x %d", cmd(1, n), s, e)
			}
		}
		for _, x := range []int{-1 << 31, 1<<31 - 1} {
			var n [9]int
			n[i] = x
			s, e := wire.Write(cmd(0, n))
			if c, f := wire.Read(s); c != cmd(0, n) || e != api.OK || f != api.OK {
				t.Errorf("Write(%v): %x %d; that is %v %d", cmd(0, n), s, e, c, f)
			}
		}
	}
}

func TestH1ReadErrors(t *testing.T) {
	for n := range 300 {
		s := strings.Repeat("\x01", n)
		if c, e := wire.Read(s); (n != 37) != (e == api.ErrForm) || n != 37 && c != (api.Cmd{}) {
			t.Errorf("Read of %d bytes: %v %d", n, c, e)
		}
	}
}

// TestH1Turn: whatever bytes they are, 37 are those of one command.
func TestH1Turn(t *testing.T) {
	r := rand.New(rand.NewSource(1))
	for range 5000 {
		s := junk(r, 37)
		c, e := wire.Read(s)
		if again, f := wire.Write(c); again != s || e != api.OK || f != api.OK {
			t.Fatalf("Read(%x): %v %d; that is written %x %d", s, c, e, again, f)
		}
	}
}

// junk is a text of n bytes.
func junk(r *rand.Rand, n int) string {
	b := make([]byte, n)
	for i := range b {
		b[i] = byte(r.Intn(256))
	}
	return string(b)
}

func TestH2(t *testing.T) {
	for s, want := range map[string]string{
		"":             "\x00\x00\x00\x00\x00",
		"\x00":         "\x01\x00\x01\x00\x00\x00",
		"\x01":         "\x01\x01\x03\x00\x00\x00",
		"abc":          "\x03abc\x77\x03\x00\x00", // 3 + 2*97 + 3*98 + 4*99 = 887
		"\xff\xff":     "\x02\xff\xff\xfd\x04\x00\x00",
		written[1].s:   "\x25" + written[1].s + "\xf5\x04\x00\x00", // 37 + 2*1, and k*(4*k + 2) of each k from 1 to 9: 1269
		"\x80\x7f\x80": "\x03\x80\x7f\x80\x80\x04\x00\x00",
	} {
		if f, e := wire.Frame(s); f != want || e != api.OK {
			t.Errorf("Frame(%x): %x %d, not %x", s, f, e, want)
		}
	}
}

// framed is s as a frame: the sum is taken from its last byte on.
func framed(s string) string {
	all := string([]byte{byte(len(s))}) + s
	sum := 0
	for i := len(all); i > 0; i-- {
		sum += i * int(all[i-1])
	}
	for range 4 {
		all += string([]byte{byte(sum % 256)})
		sum /= 256
	}
	return all
}

func TestH2Lengths(t *testing.T) {
	r := rand.New(rand.NewSource(2))
	for n := range 256 {
		for _, s := range []string{junk(r, n), strings.Repeat("\xff", n)} {
			if f, e := wire.Frame(s); f != framed(s) || len(f) != n+5 || e != api.OK {
				t.Errorf("Frame(%x): %x %d, not %x", s, f, e, framed(s))
			}
		}
	}
	for _, n := range []int{256, 257, 512, 293, 70000} {
		if f, e := wire.Frame(strings.Repeat("a", n)); f != "" || e != api.ErrMany {
			t.Errorf("Frame of %d bytes: %x %d", n, f, e)
		}
	}
}
