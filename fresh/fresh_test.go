package fresh_test

import (
	"reflect"
	"testing"

	"parcelway/api"
	"parcelway/fresh"
)

// vpc is a network with something in each list.
func vpc(id int) api.Vpc {
	face := func(n int) api.Face { return api.Face{Id: n, Addrs: []int{n, n + 1}} }
	return api.Vpc{Id: id,
		Ranges: []api.Range{{At: api.Prefix{At: 256, Len: 8}, Pool: 1}, {At: api.Prefix{At: 512, Len: 8}, Pool: 2}},
		Subs:   []api.Sub{{Id: 1, At: api.Prefix{At: 256, Len: 9}, Faces: []api.Face{face(1), face(5)}}, {Id: 2, At: api.Prefix{At: 512, Len: 9}}}}
}

func wholeNet() api.Net {
	return api.Net{Vpcs: []api.Vpc{vpc(1), vpc(2), {Id: 3}}, Links: []api.Link{{A: 1, B: 2}, {A: 2, B: 3}}}
}

func book() api.Book {
	lease := api.Lease{At: api.Prefix{At: 256, Len: 8}, Kind: 1, Owner: 7, Until: 9}
	rule := api.Rule{Min: 1, Max: 2, Usual: 3, Cool: 4}
	return api.Book{Tick: 5, Pools: []api.Pool{{Id: 1, Up: 2, Root: api.Prefix{At: 256, Len: 8}, Rule: rule, Leases: []api.Lease{lease, lease}}, {Id: 3, Leases: []api.Lease{lease}}}}
}

// wipe sets all that v has in lists to zero, from the depth up.
func wipe(v reflect.Value) {
	switch v.Kind() {
	case reflect.Struct:
		for i := range v.NumField() {
			wipe(v.Field(i))
		}
	case reflect.Slice:
		for i := range v.Len() {
			wipe(v.Index(i))
			v.Index(i).SetZero()
		}
	}
}

// copies holds copy to be the same as what it is made of, in memory of its own.
func copies[T any](t *testing.T, what func() T, copy func(T) T) {
	t.Helper()
	x := what()
	y := copy(x)
	if !reflect.DeepEqual(x, y) {
		t.Errorf("the copy is %v, of %v", y, x)
	}
	wipe(reflect.ValueOf(y))
	if !reflect.DeepEqual(x, what()) {
		t.Errorf("the copy is changed, and then %v is, too", x)
	}
	if z := copy(*new(T)); !reflect.ValueOf(z).IsZero() {
		t.Errorf("the copy of nothing is %v", z)
	}
}

func TestCopies(t *testing.T) {
	copies(t, book, fresh.Book)
	copies(t, func() api.Vpc { return vpc(1) }, fresh.Vpc)
	copies(t, wholeNet, fresh.Net)
	copies(t, func() api.Site { return api.Site{Book: book(), Net: wholeNet()} }, fresh.Site)
}
