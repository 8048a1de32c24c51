package order_test

import (
	"math"
	"slices"
	"testing"

	"parcelway/api"
	"parcelway/order"
)

func TestIsId(t *testing.T) {
	for n, want := range map[int]bool{math.MinInt: false, -1: false, 0: false, 1: true, 2: true, 65535: true, 65536: true, 65537: false, math.MaxInt: false} {
		if order.IsId(n) != want {
			t.Errorf("IsId(%d) is %v", n, !want)
		}
	}
}

func itself(n int) int       { return n }
func bytes(s string) int     { return len(s) }
func text(s string) string   { return s }
func linkA(l api.Link) int   { return l.A }
func linkB(l api.Link) int   { return l.B }
func half(n int) float64     { return float64(n) / 2 }
func link(a, b int) api.Link { return api.Link{A: a, B: b} }

func TestRise(t *testing.T) {
	for _, c := range []struct {
		l    []int
		want bool
	}{
		{nil, true}, {[]int{}, true}, {[]int{-7}, true}, {[]int{1, 2}, true}, {[]int{2, 1}, false}, {[]int{2, 2}, false},
		{[]int{1, 2, 3, 9}, true}, {[]int{1, 3, 2}, false}, {[]int{1, 1, 2}, false}, {[]int{1, 2, 2}, false}, {[]int{2, 1, 3}, false},
		{[]int{math.MinInt, -1, 0, math.MaxInt}, true}, {[]int{math.MaxInt, math.MinInt}, false},
	} {
		if order.Rise(c.l, itself) != c.want || order.Rise(c.l, half) != c.want {
			t.Errorf("Rise(%v) is %v", c.l, !c.want)
		}
	}
	if !order.Rise([]string{"z", "aa", "bbb"}, bytes) || order.Rise([]string{"a", "b"}, bytes) || !order.Rise([]string{"a", "b"}, text) || order.Rise([]string{"b", "a"}, text) {
		t.Error("texts rise wrongly")
	}
}

func TestRiseByTwo(t *testing.T) {
	for _, c := range []struct {
		l    []api.Link
		want bool
	}{
		{[]api.Link{link(1, 2), link(1, 3), link(2, 1)}, true}, {[]api.Link{link(1, 2), link(1, 2)}, false},
		{[]api.Link{link(1, 3), link(1, 2)}, false}, {[]api.Link{link(2, 1), link(1, 2)}, false}, {[]api.Link{link(1, 9), link(2, 0)}, true},
	} {
		if order.Rise(c.l, linkA, linkB) != c.want {
			t.Errorf("Rise(%v) is %v", c.l, !c.want)
		}
	}
}

func TestPut(t *testing.T) {
	for x, want := range map[int][]int{0: {0, 1, 3, 5}, 2: {1, 2, 3, 5}, 4: {1, 3, 4, 5}, 6: {1, 3, 5, 6}} {
		room := []int{1, 3, 5, 77, 77}
		got := order.Put(room[:3], x, itself)
		if !slices.Equal(got, want) {
			t.Errorf("Put(%d) is %v", x, got)
		}
		clear(got[:cap(got)])
		if !slices.Equal(room, []int{1, 3, 5, 77, 77}) {
			t.Errorf("Put(%d) changes what it is handed: %v", x, room)
		}
	}
	if got := order.Put(nil, 4, itself); !slices.Equal(got, []int{4}) {
		t.Errorf("Put into nothing is %v", got)
	}
	got := order.Put([]api.Link{link(1, 2), link(1, 5), link(2, 3)}, link(1, 4), linkA, linkB)
	if !slices.Equal(got, []api.Link{link(1, 2), link(1, 4), link(1, 5), link(2, 3)}) {
		t.Errorf("Put of a link is %v", got)
	}
}
