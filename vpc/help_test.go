package vpc_test

import (
	"slices"

	"parcelway/api"
)

// of is a prefix.
func of(at, size int) api.Prefix { return api.Prefix{At: at, Len: size} }

// ranged is a range.
func ranged(at, size, pool int) api.Range { return api.Range{At: of(at, size), Pool: pool} }

// face is a face with these addresses.
func face(id int, addrs ...int) api.Face { return api.Face{Id: id, Addrs: addrs} }

// sub is a subnet with these faces.
func sub(id, at, size int, faces ...api.Face) api.Sub {
	return api.Sub{Id: id, At: of(at, size), Faces: faces}
}

// base is a right network: of its subnets 1 has room for 268, 269 and 270, 4 is full, and 65536 is empty.
func base() api.Vpc {
	return api.Vpc{Id: 3,
		Ranges: []api.Range{ranged(256, 8, 7), ranged(512, 13, 65536), ranged(1024, 16, 1)},
		Subs: []api.Sub{
			sub(1, 264, 13, face(2, 265, 267), face(5, 266)),
			sub(4, 256, 14, face(1, 257, 258)),
			sub(65536, 512, 13),
		}}
}

// with is base, changed.
func with(turn func(v *api.Vpc)) api.Vpc {
	v := base()
	turn(&v)
	return v
}

// wide is a network with a great subnet 1 that has n faces of k addresses each, all in a row.
func wide(n, k int) api.Vpc {
	s := sub(1, 0, 0)
	for i := range n {
		f := face(i + 1)
		for j := range k {
			f.Addrs = append(f.Addrs, 1+i*k+j)
		}
		s.Faces = append(s.Faces, f)
	}
	return api.Vpc{Id: 1, Ranges: []api.Range{ranged(0, 0, 1)}, Subs: []api.Sub{s}}
}

// parted is a network with n ranges of eight addresses, and in the first one k subnets of one.
func parted(n, k int) api.Vpc {
	v := api.Vpc{Id: 1}
	for i := range n {
		v.Ranges = append(v.Ranges, ranged(256+8*i, 13, i+1))
	}
	for i := range k {
		v.Subs = append(v.Subs, sub(i+1, 256+i, 16))
	}
	return v
}

// same tells whether two networks are the same.
func same(v, w api.Vpc) bool {
	return v.Id == w.Id && slices.Equal(v.Ranges, w.Ranges) && slices.EqualFunc(v.Subs, w.Subs, func(s, t api.Sub) bool {
		return s.Id == t.Id && s.At == t.At && slices.EqualFunc(s.Faces, t.Faces, func(f, g api.Face) bool {
			return f.Id == g.Id && slices.Equal(f.Addrs, g.Addrs)
		})
	})
}

// none tells whether v is an empty network: what comes with an error.
func none(v api.Vpc) bool { return same(v, api.Vpc{}) }
