// Package space: spaces: see doc/02-space.md.
package space

import (
	"iter"
	"slices"

	"parcelway/api"
	"parcelway/cidr"
	"parcelway/order"
)

// Check tells whether s is a right space.
func Check(s api.Space) api.Errno {
	switch {
	case len(s.Used) > api.MaxUsed:
		return api.ErrMany
	case cidr.Check(s.Root) != api.OK || !apart(s):
		return api.ErrForm
	}
	return api.OK
}

// apart tells whether the used prefixes are inside of the root, rise, and do not meet. To look at neighbours is enough: a prefix that meets one further on has whatever begins between the two.
func apart(s api.Space) bool {
	for i, u := range s.Used {
		if !cidr.Inside(u, s.Root) || i > 0 && cidr.Meets(s.Used[i-1], u) {
			return false
		}
	}
	return order.Rise(s.Used, start)
}

// start is the number by which used prefixes rise.
func start(p api.Prefix) int { return p.At }

// holes goes through the greatest free parts of p, rising, by way of its halves.
func holes(p api.Prefix, used []api.Prefix) iter.Seq[api.Prefix] {
	return func(yield func(api.Prefix) bool) {
		if !meets(p, used) {
			yield(p)
			return
		}
		if slices.ContainsFunc(used, func(u api.Prefix) bool { return cidr.Inside(p, u) }) {
			return
		}
		low, high, _ := cidr.Halves(p)
		for _, half := range [2]api.Prefix{low, high} {
			for h := range holes(half, used) {
				if !yield(h) {
					return
				}
			}
		}
	}
}

// meets tells whether p meets a used prefix.
func meets(p api.Prefix, used []api.Prefix) bool {
	return slices.ContainsFunc(used, func(u api.Prefix) bool { return cidr.Meets(p, u) })
}

// first is the lowest hole of s that is as wanted.
func first(s api.Space, wanted func(api.Prefix) bool) (api.Prefix, bool) {
	for h := range holes(s.Root, s.Used) {
		if wanted(h) {
			return h, true
		}
	}
	return api.Prefix{}, false
}

// Fit is the lowest prefix of that Len that meets no used one. Each such prefix is inside of a hole, so it is the lowest part of the first hole that is great enough.
func Fit(s api.Space, size int) (api.Prefix, bool, api.Errno) {
	e := Check(s)
	if e == api.OK && (size < s.Root.Len || size > api.Width) {
		e = api.ErrRange
	}
	if e != api.OK {
		return api.Prefix{}, false, e
	}
	h, ok := first(s, func(h api.Prefix) bool { return h.Len <= size })
	if !ok {
		return api.Prefix{}, false, api.OK
	}
	return api.Prefix{At: h.At, Len: size}, true, api.OK
}

// Claim is s with p used, too.
func Claim(s api.Space, p api.Prefix) (api.Space, api.Errno) {
	e := Check(s)
	switch {
	case e != api.OK:
	case !cidr.Inside(p, s.Root):
		e = api.ErrRange
	case meets(p, s.Used):
		e = api.ErrThere
	case len(s.Used) == api.MaxUsed:
		e = api.ErrMany
	}
	if e != api.OK {
		return api.Space{}, e
	}
	return api.Space{Root: s.Root, Used: order.Put(s.Used, p, start)}, api.OK
}

// Free is s with p not used any more.
func Free(s api.Space, p api.Prefix) (api.Space, api.Errno) {
	if e := Check(s); e != api.OK {
		return api.Space{}, e
	}
	i := slices.Index(s.Used, p)
	if i < 0 {
		return api.Space{}, api.ErrNone
	}
	return api.Space{Root: s.Root, Used: slices.Concat(s.Used[:i], s.Used[i+1:])}, api.OK
}

// Holes are the greatest free parts of s.
func Holes(s api.Space) ([]api.Prefix, api.Errno) {
	if e := Check(s); e != api.OK {
		return nil, e
	}
	return slices.Collect(holes(s.Root, s.Used)), api.OK
}
