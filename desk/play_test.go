package desk_test

import (
	"math/rand"
	"strings"
	"testing"

	"parcelway/api"
	"parcelway/desk"
	"parcelway/site"
	"parcelway/wire"
)

// drawCmd is a command of few Ids, so that many are done.
func drawCmd(r *rand.Rand) api.Cmd {
	c := api.Cmd{Op: r.Intn(18), A: 1 + r.Intn(3), B: 1 + r.Intn(3), C: 1 + r.Intn(3), At: of(256*(1+r.Intn(3)), 8), Rule: wide(r.Intn(3))}
	switch c.Op {
	case api.OpNest:
		c.A, c.C = 4, 8+r.Intn(3)
		c.Rule.Min, c.Rule.Usual = 11, 12
	case api.OpTake:
		c.B, c.C = 12, 3+r.Intn(3)
	case api.OpGrow:
		c.C = pick(r, 0, 11, 12)
	case api.OpSub:
		c.At.Len = 13
	case api.OpGive, api.OpDrop:
		c.At = of(256+16*r.Intn(16), 12)
	}
	return c
}

// pick is one of these.
func pick[T any](r *rand.Rand, l ...T) T { return l[r.Intn(len(l))] }

// alike is how many bytes s and t begin with that are the same: zeros behind a log that was cut may be those that it had there.
func alike(s, t string) int {
	n := 0
	for n < min(len(s), len(t)) && s[n] == t[n] {
		n++
	}
	return n
}

// TestI1I2I4Play: a site that is worked on by Do, and a log that is stored, and cut now and then; what the log has is the commands that were done.
func TestI1I2I4Play(t *testing.T) {
	for seed := range int64(20) {
		r := rand.New(rand.NewSource(seed))
		var s api.Site
		var stored []api.Cmd
		log := ""
		for i := range 120 {
			if r.Intn(12) == 0 {
				text := log[:r.Intn(len(log)+1)] + pick(r, "", "\x25", "\x00\x00\x00\x00\x00", "?")
				stored = stored[:alike(log, text)/42]
				s, log = played(t, stored), text
			}
			c := drawCmd(r)
			n, a, _ := site.Do(s, c)
			next, b, e := desk.Store(log, c)
			if a.Err == api.OK {
				stored = append(stored, c)
			}
			if next != logged(t, stored) || a != b || e != api.OK {
				t.Fatalf("%d, %d: %v: %x %v %d, and must be %v", seed, i, c, next, b, e, a)
			}
			if x, k, e := desk.Recover(next); !same(x, n) || k != len(stored) || e != api.OK || shown(t, x) != shown(t, n) {
				t.Fatalf("%d, %d: recovered: %v %d %d, and must be %v", seed, i, x, k, e, n)
			}
			s, log = n, next
		}
	}
}

// TestP1: whatever is handed in, all calls end; with an error comes nothing else.
func TestP1(t *testing.T) {
	r := rand.New(rand.NewSource(7))
	odd := func() int { return pick(r, -1<<63, -1<<31-1, -1, 0, 1, 2, 8, 16, 17, 256, 65536, 1<<31, 1<<63-1) }
	for range 3000 {
		log := logged(t, done[:r.Intn(10)])
		i := r.Intn(len(log) + 1)
		log = log[:i] + pick(r, "", "\x25", "\x00", log) + log[min(len(log), i+r.Intn(3)):]
		c := api.Cmd{Op: odd(), A: odd(), B: odd(), C: odd(), At: of(odd(), odd()), Rule: api.Rule{Min: odd(), Max: odd(), Usual: odd(), Cool: odd()}}
		_, want := wire.Write(c)
		next, a, e := desk.Store(log, c)
		if e != want || e != api.OK && (next != "" || a != (api.Answer{})) {
			t.Fatalf("Store(%x, %v): %x %v %d, not %d", log, c, next, a, e, want)
		}
		s := full()
		*pick(r, &s.Book.Tick, &s.Book.Pools[0].Id, &s.Book.Pools[0].Leases[0].Kind, &s.Book.Pools[0].Leases[1].Kind, &s.Book.Pools[0].Leases[2].At.At, &s.Net.Vpcs[0].Id, &s.Net.Vpcs[0].Subs[0].At.Len) = odd()
		if text, e := desk.Show(s); e != site.Check(s) || (e == api.OK) != (text != "") {
			t.Fatalf("Show(%v): %q %d", s, text, e)
		}
	}
}

// TestP2P3: what Recover answers is new memory; what Show is handed stays; the same call has the same answer.
func TestP2P3(t *testing.T) {
	log := logged(t, done)
	for range 2 {
		s, _, _ := desk.Recover(log)
		if !same(s, played(t, done)) {
			t.Errorf("recovered: %v", s)
		}
		clear(s.Book.Pools[0].Leases)
		clear(s.Book.Pools)
		clear(s.Net.Vpcs[0].Subs[0].Faces[0].Addrs)
		clear(s.Net.Vpcs)
		clear(s.Net.Links)
	}
	s := full()
	first := shown(t, s)
	shown(t, api.Site{})
	if !same(s, full()) || shown(t, s) != first {
		t.Errorf("Show changes %v", s)
	}
}

// TestP4: far more than there may be is told, as the chapter says.
func TestP4(t *testing.T) {
	long := strings.Repeat(logged(t, done), 10000)
	if s, n, e := desk.Recover(long); !same(s, api.Site{}) || n != 0 || e != api.ErrMany {
		t.Errorf("Recover: %v %d %d", s, n, e)
	}
	if log, a, e := desk.Store(long, done[8]); log != "" || a != (api.Answer{}) || e != api.ErrMany {
		t.Errorf("Store: %d bytes %v %d", len(log), a, e)
	}
	if text, e := desk.Show(api.Site{Net: api.Net{Vpcs: make([]api.Vpc, 1<<18)}}); text != "" || e != api.ErrMany {
		t.Errorf("Show: %q %d", text, e)
	}
}
