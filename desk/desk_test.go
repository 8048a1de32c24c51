package desk_test

import (
	"math"
	"slices"
	"strings"
	"testing"

	"parcelway/api"
	"parcelway/desk"
	"parcelway/site"
)

func TestI1Recover(t *testing.T) {
	for n := range len(done) + 1 {
		s, k, e := desk.Recover(logged(t, done[:n]))
		if !same(s, played(t, done[:n])) || k != n || e != api.OK {
			t.Errorf("%d commands: %v %d %d", n, s, k, e)
		}
	}
	odd := slices.Concat([]api.Cmd{busy, {Op: 77}}, done, []api.Cmd{busy, busy, {Op: api.OpTick, A: -1}})
	if s, k, e := desk.Recover(logged(t, odd)); !same(s, played(t, done)) || k != 14 || e != api.OK {
		t.Errorf("with commands that are not done: %v %d %d", s, k, e)
	}
	ticks := logged(t, slices.Repeat([]api.Cmd{{Op: api.OpTick, A: 1}}, 200))
	for _, behind := range []string{"", ticks[:42], "x", ticks[:api.MaxBytes-8400]} {
		if s, k, e := desk.Recover(ticks + behind); !same(s, api.Site{Book: api.Book{Tick: 200}}) || k != 200 || e != api.OK {
			t.Errorf("200 commands, and %d bytes: %v %d %d", len(behind), s, k, e)
		}
	}
	for _, log := range []string{ticks + ticks, strings.Repeat("x", api.MaxBytes+1)} {
		if s, k, e := desk.Recover(log); !same(s, api.Site{}) || k != 0 || e != api.ErrMany {
			t.Errorf("%d bytes: %v %d %d", len(log), s, k, e)
		}
	}
}

// TestI4Cut: wherever the log is cut, and whatever stands there then, what is recovered is what was done by the commands whose frames are whole.
func TestI4Cut(t *testing.T) {
	log := logged(t, done)
	for cut := range len(log) + 1 {
		n := cut / 42
		want := played(t, done[:n])
		for _, text := range []string{log[:cut], log[:cut] + "\xee\xee\xee"} {
			if s, k, e := desk.Recover(text); !same(s, want) || k != n || e != api.OK {
				t.Fatalf("cut at %d: %v %d %d", cut, s, k, e)
			}
		}
	}
}

// TestI2Example: the ninth of the document's.
func TestI2Example(t *testing.T) {
	answers := []api.Answer{{}, {}, {}, {At: of(256, 12)}, {At: of(272, 12)}, {}, {}, {N: 257}, {}, {Err: api.ErrBusy}}
	log := ""
	for i, c := range append(done, busy) {
		next, a, e := desk.Store(log, c)
		if want := logged(t, done[:min(i+1, 9)]); next != want || a != answers[i] || e != api.OK {
			t.Fatalf("%v: %x %v %d", c, next, a, e)
		}
		log = next
	}
	if s, n, e := desk.Recover(log); !same(s, played(t, done)) || n != 9 || e != api.OK {
		t.Errorf("recovered: %v %d %d", s, n, e)
	}
}

// TestI2Cut: of a log that is cut only whole frames stay; what is stored stands right behind them, and is recovered.
func TestI2Cut(t *testing.T) {
	log := logged(t, done)
	for cut := range len(log) + 1 {
		n := cut / 42
		for _, junk := range []string{"", "\xee", strings.Repeat("\xee", 100)} {
			tick := api.Cmd{Op: api.OpTick, A: 9}
			stored := append(slices.Clone(done[:n]), tick)
			next, a, e := desk.Store(log[:cut]+junk, tick)
			if next != logged(t, stored) || a != (api.Answer{}) || e != api.OK {
				t.Fatalf("cut at %d: %x %v %d", cut, next, a, e)
			}
			if s, k, _ := desk.Recover(next); !same(s, played(t, stored)) || k != n+1 {
				t.Fatalf("cut at %d: recovered are %v %d", cut, s, k)
			}
			next, a, e = desk.Store(log[:cut]+junk, api.Cmd{Op: api.OpTick})
			if next != log[:42*n] || a != (api.Answer{Err: api.ErrRange}) || e != api.OK {
				t.Fatalf("cut at %d, and not done: %x %v %d", cut, next, a, e)
			}
		}
	}
}

// TestI2NotDone: commands of a log that were not done stay in it.
func TestI2NotDone(t *testing.T) {
	log := logged(t, []api.Cmd{busy, done[0], {Op: 99}})
	next, a, e := desk.Store(log, api.Cmd{Op: api.OpTake, A: 1, C: 4})
	if want := log + logged(t, []api.Cmd{{Op: api.OpTake, A: 1, C: 4}}); next != want || a != (api.Answer{At: of(256, 12)}) || e != api.OK {
		t.Errorf("done: %x %v %d", next, a, e)
	}
	next, a, e = desk.Store(log, done[0])
	if next != log || a != (api.Answer{Err: api.ErrThere}) || e != api.OK {
		t.Errorf("not done: %x %v %d", next, a, e)
	}
}

func TestI2Errors(t *testing.T) {
	ticks := logged(t, slices.Repeat([]api.Cmd{{Op: api.OpTick, A: 1}}, 200))
	long := strings.Repeat("x", api.MaxBytes+1)
	tick := api.Cmd{Op: api.OpTick, A: 1}
	unwritten := api.Cmd{Op: api.OpTick, A: 1, Rule: api.Rule{Cool: 1 << 31}}
	for _, c := range []struct {
		name, log string
		c         api.Cmd
		e         api.Errno
	}{
		{"too many bytes", long, tick, api.ErrMany},
		{"too many bytes, not done", long, busy, api.ErrMany},
		{"too many bytes, not to be written", long, unwritten, api.ErrMany},
		{"not to be written", "", unwritten, api.ErrRange},
		{"not to be written, no operation", "", api.Cmd{Op: 256}, api.ErrRange},
		{"not to be written, below 0", ticks[:42], api.Cmd{Op: -1}, api.ErrRange},
		{"not to be written, not done", ticks[:42], api.Cmd{Op: api.OpClose, A: math.MaxInt}, api.ErrRange},
		{"too many commands, not to be written", ticks, unwritten, api.ErrRange},
		{"too many commands", ticks, tick, api.ErrMany},
		{"too many commands, not done", ticks, busy, api.ErrMany},
		{"too many commands, no operation", ticks, api.Cmd{}, api.ErrMany},
		{"too many commands, and something behind", ticks + "xyz", tick, api.ErrMany},
	} {
		if log, a, e := desk.Store(c.log, c.c); log != "" || a != (api.Answer{}) || e != c.e {
			t.Errorf("%s: %x %v %d, not %d", c.name, log, a, e, c.e)
		}
	}
	for _, behind := range []string{"", ticks[:41], strings.Repeat("x", api.MaxBytes-199*42)} {
		if log, a, e := desk.Store(ticks[:199*42]+behind, tick); log != ticks || a != (api.Answer{}) || e != api.OK {
			t.Errorf("the last command: %d bytes %v %d", len(log), a, e)
		}
	}
}

// full is a right site with something of each kind.
func full() api.Site {
	return api.Site{
		Book: api.Book{Tick: 100, Pools: []api.Pool{
			{Id: 1, Root: of(256, 8), Rule: wide(3), Leases: []api.Lease{
				{At: of(256, 10), Kind: api.ForPool, Owner: 4}, {At: of(320, 12), Kind: api.ForUser, Owner: 20},
				{At: of(336, 12), Kind: api.ForUser, Owner: 1}, {At: of(352, 12), Kind: api.Cooling, Until: 1124}}},
			{Id: 2, Root: of(65280, 8), Rule: wide(0)},
			{Id: 4, Up: 1, Root: of(256, 10), Rule: api.Rule{Min: 10, Max: 16, Usual: 13}, Leases: []api.Lease{
				{At: of(256, 13), Kind: api.ForUser, Owner: 1}, {At: of(264, 16), Kind: api.ForUser, Owner: 65536}}},
		}},
		Net: api.Net{
			Vpcs: []api.Vpc{
				{Id: 1, Ranges: []api.Range{{At: of(256, 13), Pool: 4}, {At: of(336, 12), Pool: 1}}, Subs: []api.Sub{
					{Id: 1, At: of(336, 13), Faces: []api.Face{{Id: 1, Addrs: []int{337, 340, 341}}, {Id: 3, Addrs: []int{338}}}},
					{Id: 2, At: of(256, 14)}}},
				{Id: 7},
				{Id: 65536, Ranges: []api.Range{{At: of(264, 16), Pool: 4}}},
			},
			Links: []api.Link{{A: 1, B: 7}, {A: 7, B: 65536}},
		}}
}

func TestI3Show(t *testing.T) {
	for _, c := range []struct{ got, want string }{
		{shown(t, api.Site{}), "tick 0\n"},
		{shown(t, api.Site{Book: api.Book{Tick: 1 << 30}}), "tick 1073741824\n"},
		{shown(t, api.Site{Book: api.Book{Pools: []api.Pool{{Id: 9}}}}), "tick 0\npool 9 up 0 0.0/0\n"},
		{shown(t, api.Site{Net: api.Net{Vpcs: []api.Vpc{{Id: 9}}}}), "tick 0\nnet 9\n"},
		{shown(t, full()), lines("tick 100",
			"pool 1 up 0 1.0/8", "nest 4 1.0/10", "user 20 1.64/12", "user 1 1.80/12", "cool 1124 1.96/12",
			"pool 2 up 0 255.0/8",
			"pool 4 up 1 1.0/10", "user 1 1.0/13", "user 65536 1.8/16",
			"net 1", "range 1.0/13 4", "range 1.80/12 1", "sub 1 1.80/13", "face 1 337 340 341", "face 3 338", "sub 2 1.0/14",
			"net 7",
			"net 65536", "range 1.8/16 4",
			"link 1 7", "link 7 65536")},
		{shown(t, played(t, done)), lines("tick 5",
			"pool 1 up 0 1.0/8", "user 1 1.0/12", "user 2 1.16/12",
			"net 1", "range 1.0/12 1", "sub 1 1.0/13", "face 1 257",
			"net 2", "range 1.16/12 1", "link 1 2")},
	} {
		if c.got != c.want {
			t.Errorf("it is\n%s\nand must be\n%s", c.got, c.want)
		}
	}
}

func TestI3ShowErrors(t *testing.T) {
	for name, turn := range map[string]func(s *api.Site){
		"the book":                 func(s *api.Site) { s.Book.Tick = -1 },
		"the book has too much":    func(s *api.Site) { s.Book.Pools = make([]api.Pool, 9) },
		"the net":                  func(s *api.Site) { s.Net.Links[0].A = 2 },
		"the net has too much":     func(s *api.Site) { s.Net.Links = make([]api.Link, 13) },
		"the book, the net's much": func(s *api.Site) { s.Book.Tick, s.Net.Links = -1, make([]api.Link, 13) },
		"a range that is no lease": func(s *api.Site) { s.Net.Vpcs[2].Ranges[0].Pool = 1 },
		"a lease that is no range": func(s *api.Site) { s.Book.Pools[0].Leases[1].Owner = 7 },
	} {
		s := full()
		turn(&s)
		want := site.Check(s)
		if text, e := desk.Show(s); text != "" || e != want || want == api.OK {
			t.Errorf("%s: %q %d, not %d", name, text, e, want)
		}
	}
}
