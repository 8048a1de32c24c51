package site

import "parcelway/api"

// part is a prefix as a part of a pool: a pool within it may have the same prefix.
type part struct {
	pool int
	at   api.Prefix
}

// holders tells of each part that is leased to a user who that is.
type holders map[part]int

// holdersOf are the holders of all parts of b, which must be right.
func holdersOf(b api.Book) holders {
	held := holders{}
	for _, p := range b.Pools {
		for _, l := range p.Leases {
			if l.Kind == api.ForUser {
				held[part{p.Id, l.At}] = l.Owner
			}
		}
	}
	return held
}

// anyBy tells whether id holds a part.
func (h holders) anyBy(id int) bool {
	for _, owner := range h {
		if owner == id {
			return true
		}
	}
	return false
}
