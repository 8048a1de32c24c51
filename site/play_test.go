package site_test

import (
	"cmp"
	"math/rand"
	"slices"
	"testing"

	"parcelway/api"
	"parcelway/net"
	"parcelway/site"
)

// drawCmd is a command that s could be asked; busy are the operations that are asked most.
func drawCmd(r *rand.Rand, s api.Site, busy []int) api.Cmd {
	c := api.Cmd{Op: 1 + r.Intn(16), A: 1 + r.Intn(9), B: 1 + r.Intn(9), C: 1 + r.Intn(9), At: of(r.Intn(16)<<8, 8), Rule: api.Rule{Min: 8 + r.Intn(5), Max: 16, Usual: 13, Cool: r.Intn(5) - r.Intn(2)}}
	if r.Intn(10) > 0 {
		c.Op = pick(r, busy...)
	}
	if r.Intn(10) > 0 {
		c = drawPool(r, s, c)
	}
	if len(s.Net.Vpcs) > 0 && r.Intn(10) > 0 {
		c = drawVpc(r, s, c)
	}
	if r.Intn(30) == 0 {
		*pick(r, &c.Op, &c.A, &c.B, &c.C) = odd(r)
	}
	return c
}

// early is one of these, the first one often, so that something becomes full.
func early[T any](r *rand.Rand, l []T) T { return l[r.Intn(1+r.Intn(len(l)))] }

// drawPool is c, with what an operation on pools is likely to be asked.
func drawPool(r *rand.Rand, s api.Site, c api.Cmd) api.Cmd {
	p := api.Pool{Id: c.A}
	if len(s.Book.Pools) > 0 {
		p = early(r, s.Book.Pools)
	}
	switch c.Op {
	case api.OpNest:
		c.B, c.C = p.Id, 9+r.Intn(5)
	case api.OpClose:
		c.A = p.Id
	case api.OpTick:
		c.A = r.Intn(3)
	case api.OpTake:
		c.A, c.B, c.C = p.Id, pick(r, 0, 10, 12, 13, 16, 17), pick(r, 0, 1, 2, 3, 30, 31, 65537)
	case api.OpGrow:
		c.B, c.C = p.Id, pick(r, 0, 9, 10, 11, 12, 17)
	case api.OpGive:
		c.A, c.At = p.Id, pick(r, slices.Concat(p.Leases, []api.Lease{user(of(256, 12), 1)})...).At
	}
	return c
}

// drawVpc is c, with what an operation on networks is likely to be asked; there must be one.
func drawVpc(r *rand.Rand, s api.Site, c api.Cmd) api.Cmd {
	v := early(r, s.Net.Vpcs)
	if inside(c.Op) && r.Intn(4) > 0 {
		v = slices.MaxFunc(s.Net.Vpcs, func(v, w api.Vpc) int {
			return cmp.Or(cmp.Compare(len(v.Subs), len(w.Subs)), cmp.Compare(len(v.Ranges), len(w.Ranges)))
		})
	}
	switch {
	case c.Op == api.OpJoin || c.Op == api.OpPart:
		c.A, c.B = pick(r, s.Net.Vpcs...).Id, pick(r, s.Net.Vpcs...).Id
	case c.Op >= api.OpGrow:
		c.A = v.Id
	}
	if len(v.Ranges) > 0 && (c.Op == api.OpDrop || c.Op == api.OpSub) {
		c.At = pick(r, v.Ranges...).At
	}
	if c.Op == api.OpSub {
		bits := r.Intn(4)
		c.At.Len += bits
		c.At.At += r.Intn(1<<bits) << max(0, 16-c.At.Len)
	}
	if len(v.Subs) > 0 && c.Op > api.OpSub && inside(c.Op) {
		c.B, c.C = early(r, v.Subs).Id, r.Intn(10)
	}
	return c
}

// kinds are what scripts are busy with.
var kinds = [][]int{
	{api.OpOpen, api.OpTake, api.OpGive, api.OpNest, api.OpClose, api.OpTick},
	{api.OpOpen, api.OpNest, api.OpTake},
	{api.OpOpen, api.OpMake, api.OpGrow, api.OpSub, api.OpSub, api.OpFace, api.OpMore},
	{api.OpOpen, api.OpMake, api.OpGrow, api.OpSub, api.OpFace, api.OpFace, api.OpFace, api.OpMore, api.OpMore, api.OpMore},
	{api.OpMake, api.OpMake, api.OpJoin, api.OpJoin, api.OpJoin, api.OpJoin, api.OpOpen, api.OpGrow, api.OpDrop},
	{api.OpOpen, api.OpMake, api.OpGrow, api.OpDrop, api.OpTick, api.OpSub, api.OpUnsub, api.OpFace, api.OpUnface, api.OpGive, api.OpJoin, api.OpPart},
}

// can are of each operation the errors that it can have with a right site. (Grow and Join have no ErrBusy: of all leases of users no two meet.)
var can = map[int][]api.Errno{
	api.OpOpen:   {api.OK, api.ErrRange, api.ErrThere, api.ErrForm, api.ErrMany},
	api.OpNest:   {api.OK, api.ErrRange, api.ErrNone, api.ErrThere, api.ErrRule, api.ErrFull, api.ErrForm, api.ErrMany},
	api.OpClose:  {api.OK, api.ErrNone, api.ErrBusy},
	api.OpTick:   {api.OK, api.ErrRange},
	api.OpTake:   {api.OK, api.ErrThere, api.ErrNone, api.ErrRange, api.ErrRule, api.ErrFull},
	api.OpGive:   {api.OK, api.ErrBusy, api.ErrNone},
	api.OpMake:   {api.OK, api.ErrThere, api.ErrRange, api.ErrMany},
	api.OpGrow:   {api.OK, api.ErrNone, api.ErrRule, api.ErrFull, api.ErrMany},
	api.OpDrop:   {api.OK, api.ErrNone, api.ErrBusy},
	api.OpSub:    {api.OK, api.ErrNone, api.ErrRange, api.ErrThere, api.ErrMany},
	api.OpUnsub:  {api.OK, api.ErrNone, api.ErrBusy},
	api.OpFace:   {api.OK, api.ErrNone, api.ErrRange, api.ErrThere, api.ErrMany, api.ErrFull},
	api.OpMore:   {api.OK, api.ErrNone, api.ErrMany, api.ErrFull},
	api.OpUnface: {api.OK, api.ErrNone},
	api.OpJoin:   {api.OK, api.ErrRange, api.ErrNone, api.ErrThere, api.ErrMany},
	api.OpPart:   {api.OK, api.ErrNone},
}

// TestG2G3G4Play: long scripts, held against the model; command by command, and all at once.
func TestG2G3G4Play(t *testing.T) {
	seen := map[[2]int]int{}
	for seed := range int64(120) {
		r := rand.New(rand.NewSource(seed))
		var s api.Site
		var cmds []api.Cmd
		var answers []api.Answer
		w := watch{}
		for i := range 200 {
			c := drawCmd(r, s, kinds[int(seed)%len(kinds)])
			got, a, e := site.Do(s, c)
			want, b := model(s, c)
			if !same(got, want) || a != b || e != api.OK {
				t.Fatalf("%d, %d: %v of %v:\nit is %v %v %d,\nand must be %v %v", seed, i, c, s, got, a, e, want, b)
			}
			if site.Check(got) != api.OK || check(got) != api.OK || !apart(got) || !w.cooled(s, got, c, a) {
				t.Fatalf("%d, %d: %v of %v: then the site is wrong: %v", seed, i, c, s, got)
			}
			seen[[2]int{c.Op, int(a.Err)}]++
			s, cmds, answers = got, append(cmds, c), append(answers, a)
		}
		if got, l, e := site.Play(cmds); !same(got, s) || !slices.Equal(l, answers) || e != api.OK {
			t.Fatalf("%d: Play of %v: %v %v %d", seed, cmds, got, l, e)
		}
	}
	for op, l := range can {
		for _, e := range l {
			if seen[[2]int{op, int(e)}] == 0 {
				t.Errorf("the scripts never had the operation %d answer %d", op, e)
			}
		}
	}
}

// size is how many addresses a right prefix has.
func size(p api.Prefix) int { return 1 << (16 - p.Len) }

// apart tells whether no address is of two networks of one group, and none of two faces of one network: address by address.
func apart(s api.Site) bool {
	for _, v := range s.Net.Vpcs {
		group, _ := net.Group(s.Net, v.Id)
		of := map[int]int{}
		faces := map[int]int{}
		for _, id := range group {
			for _, r := range vpcOf(s, id).Ranges {
				for x := r.At.At; x < r.At.At+size(r.At); x++ {
					of[x]++
				}
			}
		}
		for _, u := range v.Subs {
			for _, f := range u.Faces {
				for _, x := range f.Addrs {
					faces[x]++
				}
			}
		}
		for x, n := range of {
			if n > 1 || faces[x] > 1 {
				return false
			}
		}
		for x := range faces {
			if of[x] == 0 {
				return false
			}
		}
	}
	return true
}

// A watch tells of each pool until when an address of it that came back must cool.
type watch map[int]map[int]int

// cooled tells whether what c gave had cooled in its pool; and notes what c brought back. What it goes by are the commands and their answers.
func (w watch) cooled(old, now api.Site, c api.Cmd, a api.Answer) bool {
	if a.Err != api.OK {
		return true
	}
	switch c.Op {
	case api.OpTake:
		return w.free(c.A, a.At, now.Book.Tick)
	case api.OpNest, api.OpGrow:
		return w.free(c.B, a.At, now.Book.Tick)
	case api.OpGive:
		w.back(now, c.A, c.At)
	case api.OpDrop:
		for _, r := range vpcOf(old, c.A).Ranges {
			if r.At == c.At {
				w.back(now, r.Pool, c.At)
			}
		}
	case api.OpClose:
		delete(w, c.A)
		for _, p := range old.Book.Pools {
			if p.Id == c.A && p.Up != 0 {
				w.back(now, p.Up, p.Root)
			}
		}
	}
	return true
}

// free tells whether nothing of p cools at that tick.
func (w watch) free(id int, p api.Prefix, tick int) bool {
	for x := p.At; x < p.At+size(p); x++ {
		if w[id][x] > tick {
			return false
		}
	}
	return true
}

// back notes that p came back to the pool id.
func (w watch) back(s api.Site, id int, p api.Prefix) {
	for _, l := range s.Book.Pools {
		if l.Id == id {
			if w[id] == nil {
				w[id] = map[int]int{}
			}
			for x := p.At; x < p.At+size(p); x++ {
				w[id][x] = s.Book.Tick + l.Rule.Cool
			}
		}
	}
}
