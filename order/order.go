// Package order: Ids, and lists that rise by them, or by other numbers.
package order

import (
	"cmp"
	"slices"

	"parcelway/api"
)

// IsId tells whether n can be an Id.
func IsId(n int) bool { return n >= 1 && n <= api.MaxId }

// Rise tells whether the elements of l rise by the number that by tells of each; by the next number, where that one is the same; and so on. No two that are the same in all of these rise.
func Rise[E any, N cmp.Ordered](l []E, by ...func(E) N) bool {
	for i := 1; i < len(l); i++ {
		if compare(l[i-1], l[i], by) >= 0 {
			return false
		}
	}
	return true
}

// Put is l, which rises, with x where it belongs, in memory of its own.
func Put[E any, N cmp.Ordered](l []E, x E, by ...func(E) N) []E {
	i := slices.IndexFunc(l, func(y E) bool { return compare(x, y, by) < 0 })
	if i < 0 {
		i = len(l)
	}
	return slices.Concat(l[:i], []E{x}, l[i:])
}

// compare is less than 0, if x is ahead of y; more than 0, if it is behind it.
func compare[E any, N cmp.Ordered](x, y E, by []func(E) N) int {
	for _, number := range by {
		if c := cmp.Compare(number(x), number(y)); c != 0 {
			return c
		}
	}
	return 0
}
