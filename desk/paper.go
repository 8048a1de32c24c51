package desk

import (
	"strconv"
	"strings"

	"parcelway/api"
	"parcelway/cidr"
)

// A sheet is what lines are written on.
type sheet struct{ lines []string }

// line writes these words, and ends the line.
func (s *sheet) line(words ...string) { s.lines = append(s.lines, strings.Join(words, " ")+"\n") }

// text is all that was written.
func (s *sheet) text() string { return strings.Join(s.lines, "") }

// A paper is a sheet that knows how a site is written. What it is given must be right.
type paper struct{ sheet }

// book writes what time it is, and the pools.
func (p *paper) book(b api.Book) {
	p.line("tick", digits(b.Tick))
	for _, l := range b.Pools {
		p.pool(l)
	}
}

// pool writes a pool, and its leases.
func (p *paper) pool(l api.Pool) {
	p.line("pool", digits(l.Id), "up", digits(l.Up), shown(l.Root))
	for _, x := range l.Leases {
		p.lease(x)
	}
}

// lease writes a lease.
func (p *paper) lease(l api.Lease) {
	switch l.Kind {
	case api.ForUser:
		p.line("user", digits(l.Owner), shown(l.At))
	case api.ForPool:
		p.line("nest", digits(l.Owner), shown(l.At))
	default:
		p.line("cool", digits(l.Until), shown(l.At))
	}
}

// net writes the networks, and how they are joined.
func (p *paper) net(n api.Net) {
	for _, v := range n.Vpcs {
		p.vpc(v)
	}
	for _, l := range n.Links {
		p.line("link", digits(l.A), digits(l.B))
	}
}

// vpc writes a network, and what is in it.
func (p *paper) vpc(v api.Vpc) {
	p.line("net", digits(v.Id))
	for _, r := range v.Ranges {
		p.line("range", shown(r.At), digits(r.Pool))
	}
	for _, s := range v.Subs {
		p.sub(s)
	}
}

// sub writes a subnet, and its faces.
func (p *paper) sub(s api.Sub) {
	p.line("sub", digits(s.Id), shown(s.At))
	for _, f := range s.Faces {
		words := []string{"face", digits(f.Id)}
		for _, a := range f.Addrs {
			words = append(words, digits(a))
		}
		p.line(words...)
	}
}

// digits is n as a word.
func digits(n int) string { return strconv.Itoa(n) }

// shown is p as a word.
func shown(p api.Prefix) string {
	s, _ := cidr.Show(p)
	return s
}
