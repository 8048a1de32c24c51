package vpc_test

import (
	"cmp"
	"maps"
	"slices"

	"parcelway/api"
)

// A model does by sets what the document says of a network. It has no thought of speed.
type model struct {
	id     int
	ranges map[api.Prefix]int // its pool
	subs   map[int]*subnet
}

type subnet struct {
	at    api.Prefix
	faces map[int]map[int]bool
}

// vpc is the model as a network.
func (m *model) vpc() api.Vpc {
	v := api.Vpc{Id: m.id}
	byAt := func(p, q api.Prefix) int { return cmp.Compare(p.At, q.At) }
	for _, p := range slices.SortedFunc(maps.Keys(m.ranges), byAt) {
		v.Ranges = append(v.Ranges, api.Range{At: p, Pool: m.ranges[p]})
	}
	for _, id := range slices.Sorted(maps.Keys(m.subs)) {
		s := api.Sub{Id: id, At: m.subs[id].at}
		for _, f := range slices.Sorted(maps.Keys(m.subs[id].faces)) {
			s.Faces = append(s.Faces, face(f, slices.Sorted(maps.Keys(m.subs[id].faces[f]))...))
		}
		v.Subs = append(v.Subs, s)
	}
	return v
}

// isRight tells whether p is a right prefix.
func isRight(p api.Prefix) bool {
	return p.Len >= 0 && p.Len <= 16 && p.At >= 0 && p.At <= 65535 && p.At%size(p) == 0
}

// size is how many addresses a prefix has whose Len may be.
func size(p api.Prefix) int { return 1 << (16 - p.Len) }

// share tells whether two right prefixes have an address in common.
func share(p, q api.Prefix) bool { return p.At < q.At+size(q) && q.At < p.At+size(p) }

// within tells whether q has all that p has, both right.
func within(p, q api.Prefix) bool { return q.At <= p.At && p.At+size(p) <= q.At+size(q) }

// isId tells whether n is from 1 to MaxId.
func isId(n int) bool { return n >= 1 && n <= 65536 }

func (m *model) grow(r api.Range) api.Errno {
	if !isRight(r.At) || !isId(r.Pool) {
		return api.ErrForm
	}
	for p := range m.ranges {
		if share(p, r.At) {
			return api.ErrThere
		}
	}
	if len(m.ranges) == 4 {
		return api.ErrMany
	}
	m.ranges[r.At] = r.Pool
	return api.OK
}

func (m *model) drop(p api.Prefix) (api.Range, api.Errno) {
	pool, ok := m.ranges[p]
	if !ok {
		return api.Range{}, api.ErrNone
	}
	for _, s := range m.subs {
		if within(s.at, p) {
			return api.Range{}, api.ErrBusy
		}
	}
	delete(m.ranges, p)
	return api.Range{At: p, Pool: pool}, api.OK
}

func (m *model) sub(id int, p api.Prefix) api.Errno {
	inside := false
	for r := range m.ranges {
		inside = inside || isRight(p) && within(p, r)
	}
	if !isId(id) || !inside {
		return api.ErrRange
	}
	for other, s := range m.subs {
		if other == id || share(s.at, p) {
			return api.ErrThere
		}
	}
	if len(m.subs) == 6 {
		return api.ErrMany
	}
	m.subs[id] = &subnet{at: p, faces: map[int]map[int]bool{}}
	return api.OK
}

func (m *model) unsub(id int) api.Errno {
	switch {
	case m.subs[id] == nil:
		return api.ErrNone
	case len(m.subs[id].faces) > 0:
		return api.ErrBusy
	}
	delete(m.subs, id)
	return api.OK
}

// free is the least address of s for a face; 0, if there is none.
func (s *subnet) free() int {
	for a := s.at.At + 1; a < s.at.At+size(s.at)-1; a++ {
		used := false
		for _, f := range s.faces {
			used = used || f[a]
		}
		if !used {
			return a
		}
	}
	return 0
}

func (m *model) face(n, id int) (int, api.Errno) {
	s := m.subs[n]
	switch {
	case s == nil:
		return 0, api.ErrNone
	case !isId(id):
		return 0, api.ErrRange
	case s.faces[id] != nil:
		return 0, api.ErrThere
	case len(s.faces) == 8:
		return 0, api.ErrMany
	case s.free() == 0:
		return 0, api.ErrFull
	}
	a := s.free()
	s.faces[id] = map[int]bool{a: true}
	return a, api.OK
}

func (m *model) more(n, id int) (int, api.Errno) {
	s := m.subs[n]
	switch {
	case s == nil || s.faces[id] == nil:
		return 0, api.ErrNone
	case len(s.faces[id]) == 4:
		return 0, api.ErrMany
	case s.free() == 0:
		return 0, api.ErrFull
	}
	a := s.free()
	s.faces[id][a] = true
	return a, api.OK
}

func (m *model) unface(n, id int) api.Errno {
	if m.subs[n] == nil || m.subs[n].faces[id] == nil {
		return api.ErrNone
	}
	delete(m.subs[n].faces, id)
	return api.OK
}

// check is what Check must tell of v: each of the document's words is asked of all that there is.
func check(v api.Vpc) api.Errno {
	many := len(v.Ranges) > 4 || len(v.Subs) > 6
	wrong := !isId(v.Id)
	for i, r := range v.Ranges {
		wrong = wrong || !isId(r.Pool) || !isRight(r.At)
		for _, q := range v.Ranges[:i] {
			wrong = wrong || q.At.At >= r.At.At || share(q.At, r.At)
		}
	}
	for i, s := range v.Subs {
		many = many || len(s.Faces) > 8
		wrong = wrong || !isId(s.Id) || !isRight(s.At) || !slices.ContainsFunc(v.Ranges, func(r api.Range) bool { return isRight(r.At) && within(s.At, r.At) })
		for _, o := range v.Subs[:i] {
			wrong = wrong || o.Id >= s.Id || isRight(o.At) && isRight(s.At) && share(o.At, s.At)
		}
		for j, f := range s.Faces {
			many = many || len(f.Addrs) > 4
			wrong = wrong || !isId(f.Id) || len(f.Addrs) == 0 || facesWrong(s, j)
		}
	}
	switch {
	case many:
		return api.ErrMany
	case wrong:
		return api.ErrForm
	}
	return api.OK
}

// facesWrong tells whether the face j of s is wrong beside those ahead of it, or has an address that it may not have.
func facesWrong(s api.Sub, j int) bool {
	for _, o := range s.Faces[:j] {
		if o.Id >= s.Faces[j].Id || slices.ContainsFunc(o.Addrs, func(a int) bool { return slices.Contains(s.Faces[j].Addrs, a) }) {
			return true
		}
	}
	for k, a := range s.Faces[j].Addrs {
		if !isRight(s.At) || a <= s.At.At || a >= s.At.At+size(s.At)-1 || k > 0 && s.Faces[j].Addrs[k-1] >= a {
			return true
		}
	}
	return false
}
