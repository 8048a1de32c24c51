package vpc

import "parcelway/api"

// uses tells of each address that is used how many faces have it.
type uses map[int]int

// usesOf are the addresses that faces of s have.
func usesOf(s api.Sub) uses {
	used := uses{}
	for _, f := range s.Faces {
		for _, a := range f.Addrs {
			used[a]++
		}
	}
	return used
}

// twice tells whether an address is used by two.
func (u uses) twice() bool {
	for _, faces := range u {
		if faces > 1 {
			return true
		}
	}
	return false
}

// least is the least address of s that a face can be given; false, if there is none. Few are used, so it is found soon, however great s is.
func least(s api.Sub) (int, bool) {
	used := usesOf(s)
	for a := s.At.At + 1; usable(s.At, a); a++ {
		if used[a] == 0 {
			return a, true
		}
	}
	return 0, false
}
