package tree_test

import (
	"slices"
	"testing"

	"perigee/api"
	"perigee/tree"
)

// What is written where nobody else may see it.
var (
	mark     = of(0xdead, -77)
	markNode = branch(-7, 0xdead, -77, -78, 70, 71, 72, 73)
)

func lists() [][]api.Keyed {
	return [][]api.Keyed{
		list(), list(4), list(1, 2), list(2, 1), list(3, 3, 3, 3), list(3, 3, 3, 3, 3), list(1, 2, 3, 4, 5), list(5, 4, 3, 2, 1),
		list(0, 1<<62, 2<<62, 3<<62, most), list(0, 0, 0, 0, 0, most, most, most, most, most), list(0, 1, 1<<62, 1<<62, 2<<62, 2<<62, 2<<62+1<<60, 2<<62+1<<60, 3<<62-1),
	}
}

// wanted is what Build must tell of any list.
func wanted(l []api.Keyed) []api.Node {
	for i := range l {
		if i > 0 && l[i].Key < l[i-1].Key {
			return nil
		}
	}
	return nodesOf(l)
}

// roomy is l with spare room, in which there is something else, which goes on rising.
func roomy(l []api.Keyed) []api.Keyed {
	all := append(slices.Clone(l), list(same(7, most)...)...)
	return all[:len(l)]
}

// spoil writes into all of l, its spare room too, and appends to it.
func spoil[T any](l []T, mark T) {
	_ = append(l, mark, mark)
	all := l[:cap(l)]
	for i := range all {
		all[i] = mark
	}
}

// Who writes into what was told changes nothing of what was handed in, nor of what was told ahead of it or after it.
func TestToldIsNew(t *testing.T) {
	for _, short := range lists() {
		for _, l := range [][]api.Keyed{short, roomy(short)} {
			was, want := slices.Clone(l[:cap(l)]), wanted(l)
			first, second := tree.Build(l), tree.Build(l)
			spoil(first, markNode)
			if !slices.Equal(l[:cap(l)], was) {
				t.Errorf("R3: who writes into Build(%x) changes it to %x", was, l[:cap(l)])
			}
			if !slices.Equal(second, want) {
				t.Errorf("R3: two of Build(%x) share memory", was)
			}
			if third := tree.Build(l); !slices.Equal(third, want) {
				t.Errorf("R3: Build(%x) = %v, after what it told was written into", was, third)
			}
		}
	}
}

// Who appends to what was told ahead of it changes nothing of what was told later, nor the other way round.
func TestToldIsAppendedTo(t *testing.T) {
	for _, l := range lists() {
		want := wanted(l)
		first := tree.Build(l)
		longer := append(first, markNode)
		second := tree.Build(l)
		longest := append(second, leaf(1, 2, 3, 4))
		if !slices.Equal(first, want) || !slices.Equal(second, want) || longer[len(want)] != markNode || longest[len(want)] != leaf(1, 2, 3, 4) {
			t.Errorf("R3: two of Build(%x) share spare room", l)
		}
	}
}

// Who writes into what was handed in, later, changes nothing of what was told.
func TestHandedInIsNotKept(t *testing.T) {
	for _, short := range lists() {
		for _, l := range [][]api.Keyed{slices.Clone(short), roomy(short)} {
			want := wanted(l)
			got := tree.Build(l)
			spoil(l, mark)
			if !slices.Equal(got, want) {
				t.Errorf("R3: Build(%x) was told, which is %v after what was handed in was written into", short, got)
			}
		}
	}
}

// Build writes neither into what is handed in, nor behind its end, and takes nothing from there.
func TestHandedInStays(t *testing.T) {
	for _, short := range lists() {
		l := roomy(short)
		was := slices.Clone(l[:cap(l)])
		if got := tree.Build(l); !slices.Equal(got, wanted(short)) {
			t.Errorf("R3: Build(%x) = %v, with %x behind its end", l, got, was[len(l):])
		}
		if !slices.Equal(l[:cap(l)], was) {
			t.Errorf("R3: %x was handed in, and is %x now", was, l[:cap(l)])
		}
	}
}

// What is told of other lists in between has no say.
func TestSameCallsTellTheSame(t *testing.T) {
	var told [][]api.Node
	for range 2 {
		for _, l := range lists() {
			told = append(told, tree.Build(l))
		}
	}
	for i, l := range slices.Concat(lists(), lists()) {
		if !slices.Equal(told[i], wanted(l)) {
			t.Errorf("R1: Build(%x) is %v after other calls", l, told[i])
		}
	}
}

// Those who ask at one time don't meet.
func TestAskedAtOneTime(t *testing.T) {
	wrong := make(chan int)
	for i := range 8 {
		go func() {
			w, count := words(i), 0
			for range 200 {
				if l := rising(w.keys(60)...); !slices.Equal(tree.Build(l), nodesOf(l)) {
					count++
				}
			}
			wrong <- count
		}()
	}
	for range 8 {
		if n := <-wrong; n != 0 {
			t.Errorf("R1: %d wrong of those asked at one time", n)
		}
	}
}
