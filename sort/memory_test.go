package sort_test

import (
	"slices"
	"testing"

	"perigee/api"
	"perigee/sort"
)

// mark is what is written where nobody else may see it.
var mark = api.Keyed{Key: 0xdead, Id: -77}

// lists are some that have to be moved, and some that haven't.
func lists() [][]api.Keyed {
	return [][]api.Keyed{
		list(), list(4), list(1, 2), list(2, 1), list(3, 3, 3), list(1, 2, 3, 4, 5), list(5, 4, 3, 2, 1),
		list(0, 0, 0, 0), list(most, 0, most), list(7, 1<<60, 256, 7, 0), list(0, 1<<8, 1<<16, 1<<24, 1<<32, 1<<40, 1<<48, 1<<56),
	}
}

// roomy is l with spare room, in which there is something else.
func roomy(l []api.Keyed) []api.Keyed {
	all := append(slices.Clone(l), list(9, 8, 7, 6, 5, 4, 3)...)
	return all[:len(l)]
}

// spoil writes into all of l, its spare room too, and appends to it.
func spoil(l []api.Keyed) {
	_ = append(l, mark, mark)
	all := l[:cap(l)]
	for i := range all {
		all[i] = mark
	}
}

// Who writes into what was told changes nothing of what was handed in, nor of what was told ahead of it or after it.
func TestToldIsNew(t *testing.T) {
	for _, short := range lists() {
		for _, l := range [][]api.Keyed{short, roomy(short)} {
			was, want := slices.Clone(l[:cap(l)]), byKey(l)
			first, second := sort.By(l), sort.By(l)
			spoil(first)
			if !slices.Equal(l[:cap(l)], was) {
				t.Errorf("R3: who writes into By(%x) changes it to %x", was, l[:cap(l)])
			}
			if !slices.Equal(second, want) {
				t.Errorf("R3: two of By(%x) share memory", was)
			}
			if third := sort.By(l); !slices.Equal(third, want) {
				t.Errorf("R3: By(%x) = %x, after what it told was written into", was, third)
			}
			again := sort.By(second)
			spoil(again)
			if !slices.Equal(second, want) {
				t.Errorf("R3: By of By(%x) shares memory with it", was)
			}
		}
	}
}

// Who writes into what was handed in, later, changes nothing of what was told.
func TestHandedInIsNotKept(t *testing.T) {
	for _, short := range lists() {
		for _, l := range [][]api.Keyed{slices.Clone(short), roomy(short)} {
			want := byKey(l)
			got := sort.By(l)
			if sort.Rising(l) != rising(l) {
				t.Errorf("7.1: Rising(%x) = %v", l, sort.Rising(l))
			}
			spoil(l)
			if !slices.Equal(got, want) {
				t.Errorf("R3: By(%x) was told, which is %x after what was handed in was written into", short, got)
			}
		}
	}
}

// Neither call writes into what is handed in, nor behind its end.
func TestHandedInStays(t *testing.T) {
	for _, short := range lists() {
		l := roomy(short)
		was := slices.Clone(l[:cap(l)])
		sort.By(l)
		sort.Rising(l)
		if !slices.Equal(l[:cap(l)], was) {
			t.Errorf("R3: %x was handed in, and is %x now", was, l[:cap(l)])
		}
	}
}

// What is told of other lists in between has no say.
func TestSameCallsTellTheSame(t *testing.T) {
	var told [][]api.Keyed
	for range 2 {
		for _, l := range lists() {
			told = append(told, sort.By(l))
		}
	}
	for i, l := range slices.Concat(lists(), lists()) {
		if !slices.Equal(told[i], byKey(l)) {
			t.Errorf("R1: By(%x) is %x after other calls", l, told[i])
		}
	}
}

// Those who ask at one time don't meet.
func TestAskedAtOneTime(t *testing.T) {
	wrong := make(chan int)
	for i := range 8 {
		go func() {
			w, count := words(i), 0
			for range 200 {
				var keys []uint64
				for range 100 {
					keys = append(keys, w.word()>>40)
				}
				if l := list(keys...); !slices.Equal(sort.By(l), byKey(l)) {
					count++
				}
			}
			wrong <- count
		}()
	}
	for range 8 {
		if n := <-wrong; n != 0 {
			t.Errorf("R1: %d wrong of those asked at one time", n)
		}
	}
}
