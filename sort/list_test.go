package sort_test

import (
	"cmp"
	"slices"
	"testing"

	"perigee/api"
	"perigee/sort"
)

const most = 1<<64 - 1

func of(key uint64, id int) api.Keyed { return api.Keyed{Key: key, Id: id} }

// list is one of bodies with these keys, each by the number of its place.
func list(keys ...uint64) []api.Keyed {
	var l []api.Keyed
	for i, key := range keys {
		l = append(l, of(key, i))
	}
	return l
}

// byKey is what By must tell.
func byKey(l []api.Keyed) []api.Keyed {
	want := slices.Clone(l)
	slices.SortStableFunc(want, func(a, b api.Keyed) int { return cmp.Compare(a.Key, b.Key) })
	return want
}

// rising is what Rising must tell.
func rising(l []api.Keyed) bool {
	return slices.IsSortedFunc(l, func(a, b api.Keyed) int { return cmp.Compare(a.Key, b.Key) })
}

// shown is as much of l as a message can hold.
func shown(l []api.Keyed) []api.Keyed { return l[:min(len(l), 20)] }

// check asks of l for By and Rising, twice, and for both of what By told.
func check(t *testing.T, l []api.Keyed) {
	t.Helper()
	was, want := slices.Clone(l), byKey(l)
	for range 2 {
		got := sort.By(l)
		if !slices.Equal(got, want) {
			t.Fatalf("7.1: By(%x) = %x, not %x", shown(was), shown(got), shown(want))
		}
		if again := sort.By(got); !slices.Equal(again, want) || !slices.Equal(got, want) {
			t.Fatalf("7.2: By of By(%x) = %x, not %x", shown(was), shown(again), shown(want))
		}
		if sort.Rising(l) != rising(was) {
			t.Fatalf("7.1: Rising(%x) = %v", shown(was), sort.Rising(l))
		}
		if !sort.Rising(got) {
			t.Fatalf("7.1: By(%x) isn't Rising", shown(was))
		}
		if !slices.Equal(l, was) {
			t.Fatalf("R3: %x was handed in, and is %x now", shown(was), shown(l))
		}
	}
}

// words are a row of numbers that look like any.
type words uint64

func (w *words) word() uint64 {
	*w += 0x9e3779b97f4a7c15
	n := uint64(*w)
	n = (n ^ n>>30) * 0xbf58476d1ce4e5b9
	n = (n ^ n>>27) * 0x94d049bb133111eb
	return n ^ n>>31
}

// mixed are the places below n, each once, in an order that looks like any.
func (w *words) mixed(n int) []int {
	l := make([]int, n)
	for i := range l {
		j := int(w.word() % uint64(i+1))
		l[i], l[j] = l[j], i
	}
	return l
}
