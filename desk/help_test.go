package desk_test

import (
	"fmt"
	"strings"
	"testing"

	"parcelway/api"
	"parcelway/desk"
	"parcelway/site"
	"parcelway/wire"
)

// of is a prefix.
func of(at, size int) api.Prefix { return api.Prefix{At: at, Len: size} }

// wide is a rule that bars little; it is right for a root of Len 8 or less.
func wide(cool int) api.Rule { return api.Rule{Min: 8, Max: 16, Usual: 12, Cool: cool} }

// same tells whether two sites are the same, however their empty lists are told.
func same(a, b api.Site) bool { return fmt.Sprint(a) == fmt.Sprint(b) }

// logged is l as a log.
func logged(t *testing.T, l []api.Cmd) string {
	t.Helper()
	s, e := wire.Log(l)
	if e != api.OK {
		t.Fatalf("Log(%v): %d", l, e)
	}
	return s
}

// played is the site that l leads to.
func played(t *testing.T, l []api.Cmd) api.Site {
	t.Helper()
	s, _, e := site.Play(l)
	if e != api.OK {
		t.Fatalf("Play(%v): %d", l, e)
	}
	return s
}

// shown is s as lines.
func shown(t *testing.T, s api.Site) string {
	t.Helper()
	text, e := desk.Show(s)
	if e != api.OK {
		t.Fatalf("Show(%v): %d", s, e)
	}
	return text
}

// lines is these, with a line feed behind each.
func lines(l ...string) string { return strings.Join(l, "\n") + "\n" }

// done are nine commands, all of which are done.
var done = []api.Cmd{
	{Op: api.OpOpen, A: 1, At: of(256, 8), Rule: wide(3)},
	{Op: api.OpMake, A: 1}, {Op: api.OpMake, A: 2},
	{Op: api.OpGrow, A: 1, B: 1}, {Op: api.OpGrow, A: 2, B: 1},
	{Op: api.OpJoin, A: 1, B: 2},
	{Op: api.OpSub, A: 1, B: 1, At: of(256, 13)},
	{Op: api.OpFace, A: 1, B: 1, C: 1},
	{Op: api.OpTick, A: 5},
}

// busy is one that is not done behind them.
var busy = api.Cmd{Op: api.OpGive, A: 1, At: of(256, 12)}
