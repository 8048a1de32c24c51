package net_test

import (
	"cmp"
	"maps"
	"slices"

	"parcelway/api"
	layer "parcelway/vpc"
)

// A model does by sets what the document says of a net. It has no thought of speed.
type model struct {
	vpcs  map[int]map[api.Prefix]int // of each range the pool
	links map[api.Link]bool
}

// net is the model as a net.
func (m *model) net() api.Net {
	var n api.Net
	for _, id := range slices.Sorted(maps.Keys(m.vpcs)) {
		v := api.Vpc{Id: id}
		for p, pool := range m.vpcs[id] {
			v.Ranges = append(v.Ranges, api.Range{At: p, Pool: pool})
		}
		slices.SortFunc(v.Ranges, func(r, s api.Range) int { return cmp.Compare(r.At.At, s.At.At) })
		n.Vpcs = append(n.Vpcs, v)
	}
	n.Links = slices.SortedFunc(maps.Keys(m.links), func(k, l api.Link) int {
		return cmp.Or(cmp.Compare(k.A, l.A), cmp.Compare(k.B, l.B))
	})
	return n
}

// isRight tells whether p is a right prefix.
func isRight(p api.Prefix) bool {
	return p.Len >= 0 && p.Len <= 16 && p.At >= 0 && p.At <= 65535 && p.At%size(p) == 0
}

// size is how many addresses a prefix has whose Len may be.
func size(p api.Prefix) int { return 1 << (16 - p.Len) }

// share tells whether two right prefixes have an address in common.
func share(p, q api.Prefix) bool { return p.At < q.At+size(q) && q.At < p.At+size(p) }

// isId tells whether n is from 1 to MaxId.
func isId(n int) bool { return n >= 1 && n <= 65536 }

// reach are all that one comes to from id, going from link to link.
func reach(links []api.Link, id int) map[int]bool {
	got := map[int]bool{id: true}
	for range links {
		for _, l := range links {
			if got[l.A] || got[l.B] {
				got[l.A], got[l.B] = true, true
			}
		}
	}
	return got
}

// group is the group of id.
func (m *model) group(id int) ([]int, api.Errno) {
	if m.vpcs[id] == nil {
		return nil, api.ErrNone
	}
	return slices.Sorted(maps.Keys(reach(m.net().Links, id))), api.OK
}

func (m *model) make(id int) api.Errno {
	switch {
	case !isId(id):
		return api.ErrRange
	case m.vpcs[id] != nil:
		return api.ErrThere
	case len(m.vpcs) == 6:
		return api.ErrMany
	}
	m.vpcs[id] = map[api.Prefix]int{}
	return api.OK
}

// meets tells whether p meets a range of that network.
func (m *model) meets(id int, p api.Prefix) bool {
	for q := range m.vpcs[id] {
		if share(p, q) {
			return true
		}
	}
	return false
}

func (m *model) grow(id int, r api.Range) api.Errno {
	g, e := m.group(id)
	switch {
	case e != api.OK:
		return e
	case !isRight(r.At) || !isId(r.Pool):
		return api.ErrForm
	case m.meets(id, r.At):
		return api.ErrThere
	case len(m.vpcs[id]) == 4:
		return api.ErrMany
	case slices.ContainsFunc(g, func(other int) bool { return other != id && m.meets(other, r.At) }):
		return api.ErrBusy
	}
	m.vpcs[id][r.At] = r.Pool
	return api.OK
}

func (m *model) join(a, b int) api.Errno {
	g, e := m.group(a)
	h, f := m.group(b)
	switch {
	case a == b:
		return api.ErrRange
	case e != api.OK || f != api.OK:
		return api.ErrNone
	case m.links[link(a, b)] || m.links[link(b, a)]:
		return api.ErrThere
	}
	for _, x := range g {
		for _, y := range h {
			for p := range m.vpcs[x] {
				if x != y && m.meets(y, p) {
					return api.ErrBusy
				}
			}
		}
	}
	if len(m.links) == 12 {
		return api.ErrMany
	}
	m.links[link(min(a, b), max(a, b))] = true
	return api.OK
}

func (m *model) part(a, b int) api.Errno {
	l := link(min(a, b), max(a, b))
	if !m.links[l] {
		return api.ErrNone
	}
	delete(m.links, l)
	return api.OK
}

// check is what Check must tell of n: each of the document's words is asked of all that there is.
func check(n api.Net) api.Errno {
	if len(n.Vpcs) > 6 || len(n.Links) > 12 {
		return api.ErrMany
	}
	ids := map[int]int{}
	for i, v := range n.Vpcs {
		ids[v.Id]++
		if layer.Check(v) != api.OK || i > 0 && n.Vpcs[i-1].Id >= v.Id {
			return api.ErrForm
		}
	}
	for i, l := range n.Links {
		if l.A >= l.B || ids[l.A] == 0 || ids[l.B] == 0 {
			return api.ErrForm
		}
		for _, k := range n.Links[:i] {
			if k.A > l.A || k.A == l.A && k.B >= l.B {
				return api.ErrForm
			}
		}
	}
	for i, v := range n.Vpcs {
		g := reach(n.Links, v.Id)
		for _, w := range n.Vpcs[:i] {
			if g[w.Id] && clash(v, w) {
				return api.ErrForm
			}
		}
	}
	return api.OK
}

// clash tells whether two networks have an address in common.
func clash(v, w api.Vpc) bool {
	for _, r := range v.Ranges {
		for _, s := range w.Ranges {
			if share(r.At, s.At) {
				return true
			}
		}
	}
	return false
}
