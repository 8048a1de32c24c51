package net

import "parcelway/api"

// groups leads from each network to another one of its group, or to itself, if it is the group's head.
type groups map[int]int

// head is the one of id's group that all of them lead to.
func (g groups) head(id int) int {
	for g[id] != id {
		id = g[id]
	}
	return id
}

// groupsOf are the groups of n, whose links must be of networks that are there.
func groupsOf(n api.Net) groups {
	g := groups{}
	for _, v := range n.Vpcs {
		g[v.Id] = v.Id
	}
	for _, l := range n.Links {
		g[g.head(l.A)] = g.head(l.B)
	}
	return g
}
