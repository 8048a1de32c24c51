package pool_test

import (
	"cmp"
	"maps"
	"slices"

	"parcelway/api"
)

// A model does by sets, and by looking at each address, what the document says of a book. It has no thought of speed.
type model struct {
	tick  int
	pools map[int]*entry
}

type entry struct {
	up     int
	root   api.Prefix
	rule   api.Rule
	leases map[api.Prefix]api.Lease
}

// book is the model as a book.
func (m *model) book() api.Book {
	b := api.Book{Tick: m.tick}
	for _, id := range slices.Sorted(maps.Keys(m.pools)) {
		e := m.pools[id]
		l := slices.Collect(maps.Values(e.leases))
		slices.SortFunc(l, func(a, b api.Lease) int { return cmp.Compare(a.At.At, b.At.At) })
		b.Pools = append(b.Pools, api.Pool{Id: id, Up: e.up, Root: e.root, Rule: e.rule, Leases: l})
	}
	return b
}

// size is how many addresses a right prefix has.
func size(p api.Prefix) int { return 1 << (api.Width - p.Len) }

// share tells whether two right prefixes have an address in common.
func share(p, q api.Prefix) bool { return p.At < q.At+size(q) && q.At < p.At+size(p) }

// fit is the lowest part of e of that Len that meets no lease.
func (e *entry) fit(l int) (api.Prefix, bool) {
	for at := e.root.At; at < e.root.At+size(e.root); at += size(of(0, l)) {
		free := true
		for p := range e.leases {
			free = free && !share(p, of(at, l))
		}
		if free {
			return of(at, l), true
		}
	}
	return api.Prefix{}, false
}

// rules tells whether r is right for root.
func rules(r api.Rule, root api.Prefix) bool {
	return r.Min >= root.Len && r.Usual >= r.Min && r.Usual <= r.Max && r.Max <= 16 && r.Cool >= 0 && r.Cool <= 1024
}

// id tells whether n is from 1 to MaxId.
func id(n int) bool { return n >= 1 && n <= 65536 }

func (m *model) open(n int, root api.Prefix, r api.Rule) api.Errno {
	if !id(n) || root.Len < 0 || root.Len > 16 || root.At < 0 || root.At > 65535 || root.At%size(root) != 0 {
		return api.ErrRange
	}
	if m.pools[n] != nil {
		return api.ErrThere
	}
	for _, e := range m.pools {
		if e.up == 0 && share(e.root, root) {
			return api.ErrThere
		}
	}
	if !rules(r, root) {
		return api.ErrForm
	}
	if len(m.pools) == 8 {
		return api.ErrMany
	}
	m.pools[n] = &entry{root: root, rule: r, leases: map[api.Prefix]api.Lease{}}
	return api.OK
}

func (m *model) nest(n, up, l int, r api.Rule) (api.Prefix, api.Errno) {
	above := m.pools[up]
	switch {
	case !id(n):
		return api.Prefix{}, api.ErrRange
	case above == nil:
		return api.Prefix{}, api.ErrNone
	case m.pools[n] != nil:
		return api.Prefix{}, api.ErrThere
	case l < above.rule.Min || l > above.rule.Max:
		return api.Prefix{}, api.ErrRule
	}
	root, ok := above.fit(l)
	switch {
	case !ok || len(above.leases) == 32:
		return api.Prefix{}, api.ErrFull
	case !rules(r, root):
		return api.Prefix{}, api.ErrForm
	case len(m.pools) == 8:
		return api.Prefix{}, api.ErrMany
	}
	above.leases[root] = nested(root, n)
	m.pools[n] = &entry{up: up, root: root, rule: r, leases: map[api.Prefix]api.Lease{}}
	return root, api.OK
}

func (m *model) take(n, l, owner int) (api.Prefix, api.Errno) {
	e := m.pools[n]
	switch {
	case e == nil:
		return api.Prefix{}, api.ErrNone
	case !id(owner):
		return api.Prefix{}, api.ErrRange
	}
	if l == 0 {
		l = e.rule.Usual
	}
	if l < e.rule.Min || l > e.rule.Max {
		return api.Prefix{}, api.ErrRule
	}
	p, ok := e.fit(l)
	if !ok || len(e.leases) == 32 {
		return api.Prefix{}, api.ErrFull
	}
	e.leases[p] = user(p, owner)
	return p, api.OK
}

// back is what becomes of a part that came back.
func (m *model) back(e *entry, p api.Prefix) {
	e.leases[p] = cooling(p, m.tick+e.rule.Cool)
	m.sweep()
}

// sweep takes what has cooled away.
func (m *model) sweep() {
	for _, e := range m.pools {
		maps.DeleteFunc(e.leases, func(_ api.Prefix, l api.Lease) bool { return l.Kind == api.Cooling && l.Until <= m.tick })
	}
}

func (m *model) give(n int, p api.Prefix) api.Errno {
	e := m.pools[n]
	if e == nil || e.leases[p].Kind != api.ForUser {
		return api.ErrNone
	}
	m.back(e, p)
	return api.OK
}

func (m *model) shut(n int) api.Errno {
	e := m.pools[n]
	if e == nil {
		return api.ErrNone
	}
	for _, l := range e.leases {
		if l.Kind != api.Cooling {
			return api.ErrBusy
		}
	}
	delete(m.pools, n)
	if e.up != 0 {
		m.back(m.pools[e.up], e.root)
	}
	return api.OK
}

func (m *model) pass(n int) api.Errno {
	if n < 1 || float64(m.tick)+float64(n) > 1<<30 {
		return api.ErrRange
	}
	m.tick += n
	m.sweep()
	return api.OK
}
