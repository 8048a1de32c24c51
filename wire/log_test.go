package wire_test

import (
	"math"
	"math/rand"
	"slices"
	"strings"
	"testing"

	"parcelway/api"
	"parcelway/wire"
)

// some are n commands, no two of which are the same.
func some(n int) []api.Cmd {
	l := make([]api.Cmd, n)
	for i := range l {
		l[i] = cmd(i%256, [9]int{i, -i, i << 20, i * 77, -i << 20, 1 - i, math.MaxInt32 - i, math.MinInt32 + i, 5})
	}
	return l
}

// logged is l as a log.
func logged(t *testing.T, l []api.Cmd) string {
	t.Helper()
	s, e := wire.Log(l)
	if e != api.OK {
		t.Fatalf("Log(%v): %d", l, e)
	}
	return s
}

func TestH3Log(t *testing.T) {
	for _, n := range []int{0, 1, 2, 199, 200} {
		want := ""
		for _, c := range some(n) {
			s, _ := wire.Write(c)
			want += framed(s)
		}
		if s, e := wire.Log(some(n)); s != want || len(s) != 42*n || e != api.OK {
			t.Errorf("Log of %d commands: %d bytes, %d", n, len(s), e)
		}
	}
	if s, e := wire.Log(nil); s != "" || e != api.OK {
		t.Errorf("Log of nothing: %x %d", s, e)
	}
}

func TestH3LogErrors(t *testing.T) {
	for _, n := range []int{201, 202, 1000} {
		if s, e := wire.Log(some(n)); s != "" || e != api.ErrMany {
			t.Errorf("Log of %d commands: %d bytes, %d", n, len(s), e)
		}
	}
	for _, n := range []int{1, 200, 201, 202, 1000} {
		for _, i := range []int{0, n / 2, n - 1} {
			l := some(n)
			l[i].Rule.Cool = 1 << 31
			if s, e := wire.Log(l); s != "" || e != api.ErrRange {
				t.Errorf("Log of %d commands, of which %d can't be written: %d bytes, %d", n, i, len(s), e)
			}
		}
	}
}

// replays holds Replay of s to be the first n of l, and their bytes.
func replays(t *testing.T, what, s string, l []api.Cmd, n int) {
	t.Helper()
	if got, whole, e := wire.Replay(s); !slices.Equal(got, l[:n]) || whole != 42*n || e != api.OK {
		t.Errorf("%s: %d commands in %d bytes, %d; not %d", what, len(got), whole, e, n)
	}
}

func TestH3Replay(t *testing.T) {
	for _, n := range []int{0, 1, 2, 7, 199, 200} {
		replays(t, "a log", logged(t, some(n)), some(n), n)
	}
	all := some(200)
	log := logged(t, all)
	replays(t, "more than MaxCmds", log+log[:42], all, 200)
	replays(t, "more than MaxCmds, up to MaxBytes", (log + log)[:api.MaxBytes], all, 200)
	replays(t, "no frame behind MaxCmds", log+strings.Repeat("x", api.MaxBytes-len(log)), all, 200)
	replays(t, "as many bytes as there may be", log[:84]+strings.Repeat("x", api.MaxBytes-84), all, 2)
	replays(t, "zeros", strings.Repeat("\x00", api.MaxBytes), all, 0)
	for _, s := range []string{log + log, strings.Repeat("x", api.MaxBytes+1), log[:84] + strings.Repeat("\x00", api.MaxBytes-83), strings.Repeat("a", 100000)} {
		if l, whole, e := wire.Replay(s); len(l) != 0 || whole != 0 || e != api.ErrMany {
			t.Errorf("%d bytes: %v %d %d", len(s), l, whole, e)
		}
	}
}

// TestH3NoFrameOfACommand: frames that are whole, but of something else, end the reading.
func TestH3NoFrameOfACommand(t *testing.T) {
	l := some(4)
	log := logged(t, l)
	for n := range 256 {
		if n == 37 {
			continue
		}
		for _, s := range []string{strings.Repeat("\x01", n), strings.Repeat("\x00", n)} {
			f, _ := wire.Frame(s)
			replays(t, "a frame of something else", log[:84]+f+log[84:], l, 2)
		}
	}
}

func TestH4Cut(t *testing.T) {
	l := some(9)
	log := logged(t, l)
	r := rand.New(rand.NewSource(3))
	for cut := range len(log) + 1 {
		replays(t, "a log that is cut", log[:cut], l, cut/42)
		if cut%42 > 0 {
			replays(t, "a log that is cut, and goes on", log[:cut]+log[:42], l, cut/42)
			replays(t, "a log that is cut, and junk", log[:cut]+string([]byte{^log[cut]})+junk(r, r.Intn(90)), l, cut/42)
		}
	}
}

// TestH4Spoilt: a byte that is other than it was ends the reading at its frame; whatever stands behind, nothing is lost of what was ahead.
func TestH4Spoilt(t *testing.T) {
	l := some(5)
	log := logged(t, l)
	for i := range len(log) {
		for x := range 256 {
			if byte(x) != log[i] {
				replays(t, "a log with a wrong byte", log[:i]+string([]byte{byte(x)})+log[i+1:], l, i/42)
			}
		}
	}
	r := rand.New(rand.NewSource(4))
	for range 2000 {
		replays(t, "junk behind", log+"\xff"+junk(r, r.Intn(300)), l, 5)
		replays(t, "zeros behind", log+strings.Repeat("\x00", r.Intn(300)), l, 5)
	}
}

// TestP1: whatever text it is, Replay ends; what it tells is a log that the text begins with.
func TestP1(t *testing.T) {
	r := rand.New(rand.NewSource(5))
	for range 3000 {
		s := junk(r, r.Intn(200))
		if r.Intn(2) == 0 {
			s = logged(t, some(r.Intn(6)))
			i := r.Intn(len(s) + 1)
			s = s[:i] + pick(r, "", "\x25", "\x00", s) + s[min(len(s), i+r.Intn(3)):]
		}
		l, whole, e := wire.Replay(s)
		if e != api.OK || whole > len(s) || logged(t, l) != s[:whole] {
			t.Fatalf("Replay(%x): %v %d %d", s, l, whole, e)
		}
		wire.Read(s)
		wire.Frame(s)
	}
}

// pick is one of these.
func pick[T any](r *rand.Rand, l ...T) T { return l[r.Intn(len(l))] }

// TestP2: what is handed in stays, the spare room behind it, too; what comes out is new.
func TestP2(t *testing.T) {
	all := some(9)
	log := logged(t, all[:5])
	if !slices.Equal(all, some(9)) {
		t.Error("Log changes what it is handed")
	}
	l, _, _ := wire.Replay(log)
	clear(l[:cap(l)])
	replays(t, "once more", log, some(9), 5)
}

// TestP3: the same call has the same answer, whatever was asked in between.
func TestP3(t *testing.T) {
	log := logged(t, some(20))
	for range 3 {
		logged(t, some(7))
		wire.Replay("\x25")
		wire.Log(some(201))
		if s := logged(t, some(20)); s != log {
			t.Errorf("Log: %x, then %x", log, s)
		}
		replays(t, "once more", log, some(20), 20)
	}
}

// TestP4: far more than there may be is told, as the chapter says.
func TestP4(t *testing.T) {
	l := slices.Repeat(some(200), 1000)
	if s, e := wire.Log(l); s != "" || e != api.ErrMany {
		t.Errorf("Log: %d bytes, %d", len(s), e)
	}
	l[len(l)-1].Op = 256
	if s, e := wire.Log(l); s != "" || e != api.ErrRange {
		t.Errorf("Log, the last one not to be written: %d bytes, %d", len(s), e)
	}
	long := strings.Repeat(logged(t, some(200)), 1000)
	if l, whole, e := wire.Replay(long); len(l) != 0 || whole != 0 || e != api.ErrMany {
		t.Errorf("Replay: %d commands in %d bytes, %d", len(l), whole, e)
	}
	if s, e := wire.Frame(long); s != "" || e != api.ErrMany {
		t.Errorf("Frame: %d bytes, %d", len(s), e)
	}
	if c, e := wire.Read(long); c != (api.Cmd{}) || e != api.ErrForm {
		t.Errorf("Read: %v %d", c, e)
	}
}
