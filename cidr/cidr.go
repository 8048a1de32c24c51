// Package cidr: prefixes: see doc/01-cidr.md.
package cidr

import (
	"strconv"
	"strings"

	"parcelway/api"
)

// longest is the greatest length of a prefix that is shown.
const longest = len("255.255/16")

// Check tells whether p is a right prefix.
func Check(p api.Prefix) api.Errno {
	switch {
	case p.Len < 0 || p.Len > api.Width || p.At < 0 || p.At > api.Top:
		return api.ErrRange
	case p.At%span(p.Len) != 0:
		return api.ErrForm
	}
	return api.OK
}

// span is what 2^(Width - size) is; size must be from 0 to Width, since a shift by less than 0 panics.
func span(size int) int { return 1 << (api.Width - size) }

// right tells whether all of these are right prefixes.
func right(ps ...api.Prefix) bool {
	for _, p := range ps {
		if Check(p) != api.OK {
			return false
		}
	}
	return true
}

// Size is how many addresses p has; 0, if p is not right.
func Size(p api.Prefix) int {
	if !right(p) {
		return 0
	}
	return span(p.Len)
}

// Holds tells whether p has that address.
func Holds(p api.Prefix, addr int) bool {
	return right(p) && p.At <= addr && addr < p.At+span(p.Len)
}

// Inside tells whether q has all addresses of p.
func Inside(p, q api.Prefix) bool {
	return right(p, q) && q.Len <= p.Len && Holds(q, p.At)
}

// Meets tells whether there is an address that both have. Two prefixes never overlap in part: if they meet, one is inside of the other one.
func Meets(p, q api.Prefix) bool { return Inside(p, q) || Inside(q, p) }

// Halves are the lower and the upper half of p.
func Halves(p api.Prefix) (api.Prefix, api.Prefix, api.Errno) {
	e := Check(p)
	if e == api.OK && p.Len == api.Width {
		e = api.ErrRange
	}
	if e != api.OK {
		return api.Prefix{}, api.Prefix{}, e
	}
	size := p.Len + 1
	return api.Prefix{At: p.At, Len: size}, api.Prefix{At: p.At + span(size), Len: size}, api.OK
}

// Up is the prefix of which p is a half.
func Up(p api.Prefix) (api.Prefix, api.Errno) {
	e := Check(p)
	if e == api.OK && p.Len == 0 {
		e = api.ErrRange
	}
	if e != api.OK {
		return api.Prefix{}, e
	}
	size := p.Len - 1
	return api.Prefix{At: p.At - p.At%span(size), Len: size}, api.OK
}

// Show is p as a text.
func Show(p api.Prefix) (string, api.Errno) {
	if e := Check(p); e != api.OK {
		return "", e
	}
	return strconv.Itoa(p.At>>8) + "." + strconv.Itoa(p.At&255) + "/" + strconv.Itoa(p.Len), api.OK
}

// Read is the prefix that is shown as s. Whatever the numbers of s were read as, s is one just if Show gives it back: that bars signs, zeros ahead, numbers that are too great, and bytes that do not belong there.
func Read(s string) (api.Prefix, api.Errno) {
	if len(s) > longest {
		return api.Prefix{}, api.ErrForm
	}
	at, size, _ := strings.Cut(s, "/")
	high, low, _ := strings.Cut(at, ".")
	p := api.Prefix{At: number(high)<<8 + number(low), Len: number(size)}
	if shown, e := Show(p); e != api.OK || shown != s {
		return api.Prefix{}, api.ErrForm
	}
	return p, api.OK
}

// number is the number that s shows. What is none need not be told apart, since Read holds its result against the text.
func number(s string) int {
	n, _ := strconv.Atoi(s)
	return n
}
