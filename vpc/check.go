package vpc

import (
	"slices"

	"parcelway/api"
	"parcelway/cidr"
	"parcelway/order"
)

// Check tells whether v is a right network.
func Check(v api.Vpc) api.Errno {
	switch {
	case tooMany(v):
		return api.ErrMany
	case !order.IsId(v.Id) || !rangesRight(v.Ranges) || !subsRight(v):
		return api.ErrForm
	}
	return api.OK
}

// tooMany tells whether there is more of something than there may be.
func tooMany(v api.Vpc) bool {
	return len(v.Ranges) > api.MaxRanges || len(v.Subs) > api.MaxSubs || slices.ContainsFunc(v.Subs, tooManyFaces)
}

// tooManyFaces tells whether s has too many faces, or one of them too many addresses.
func tooManyFaces(s api.Sub) bool {
	return len(s.Faces) > api.MaxFaces ||
		slices.ContainsFunc(s.Faces, func(f api.Face) bool { return len(f.Addrs) > api.MaxAddrs })
}

// rangesRight tells whether l is as a network's ranges must be.
func rangesRight(l []api.Range) bool {
	for i, r := range l {
		if !rangeRight(r) || meetsRange(l[:i], r.At) {
			return false
		}
	}
	return order.Rise(l, rangeAt)
}

// rangeRight tells whether r is one that a network may have.
func rangeRight(r api.Range) bool { return cidr.Check(r.At) == api.OK && order.IsId(r.Pool) }

// meetsRange tells whether p meets one of these ranges.
func meetsRange(l []api.Range, p api.Prefix) bool {
	return slices.ContainsFunc(l, func(r api.Range) bool { return cidr.Meets(r.At, p) })
}

// subsRight tells whether v's subnets are as they must be.
func subsRight(v api.Vpc) bool {
	for i, s := range v.Subs {
		if !subRight(v, s.Id, s.At) || meetsSub(v.Subs[:i], s.At) || !facesRight(s) {
			return false
		}
	}
	return order.Rise(v.Subs, subId)
}

// subRight tells whether v may have a subnet with that Id, and there, but for its other subnets.
func subRight(v api.Vpc, id int, p api.Prefix) bool {
	return order.IsId(id) && slices.ContainsFunc(v.Ranges, func(r api.Range) bool { return cidr.Inside(p, r.At) })
}

// meetsSub tells whether p meets one of these subnets.
func meetsSub(l []api.Sub, p api.Prefix) bool {
	return slices.ContainsFunc(l, func(s api.Sub) bool { return cidr.Meets(s.At, p) })
}

// facesRight tells whether s's faces are as they must be.
func facesRight(s api.Sub) bool {
	for _, f := range s.Faces {
		if !order.IsId(f.Id) || len(f.Addrs) == 0 || !addrsRight(s.At, f.Addrs) {
			return false
		}
	}
	return order.Rise(s.Faces, faceId) && !usesOf(s).twice()
}

// addrsRight tells whether l is as the addresses of a face there must be.
func addrsRight(p api.Prefix, l []int) bool {
	return order.Rise(l, addrAt) && !slices.ContainsFunc(l, func(a int) bool { return !usable(p, a) })
}

// usable tells whether a face of the subnet p may have a: all addresses but the first and the last one.
func usable(p api.Prefix, a int) bool { return p.At < a && a < p.At+cidr.Size(p)-1 }

// The numbers by which a network's lists rise.
func rangeAt(r api.Range) int { return r.At.At }
func subId(s api.Sub) int     { return s.Id }
func faceId(f api.Face) int   { return f.Id }
func addrAt(a int) int        { return a }
