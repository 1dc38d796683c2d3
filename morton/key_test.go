package morton_test

import (
	"testing"

	"perigee/morton"
)

func TestKeyAndSplitByHand(t *testing.T) {
	for _, c := range []struct {
		x, y uint32
		key  uint64
	}{
		{3, 0, 5},
		{0, 0, 0}, {1, 0, 1}, {0, 1, 2}, {1, 1, 3}, {2, 0, 4}, {0, 2, 8}, {2, 2, 12}, {0, 3, 10},
		{5, 6, 0x39}, {6, 5, 0x36}, {7, 7, 63}, {0xff, 0, 0x5555}, {0, 0xff, 0xaaaa},
		{0xabcd, 0x1234, 0x464d5a71}, {0x12345678, 0x9abcdef0, 0x838c8fb0b3bcbf40},
		{1 << 15, 0, 1 << 30}, {0, 1 << 15, 1 << 31}, {1 << 16, 0, 1 << 32}, {0, 1 << 16, 1 << 33},
		{1 << 31, 0, 1 << 62}, {0, 1 << 31, 1 << 63}, {1 << 31, 1 << 31, 3 << 62},
		{mostWord, 0, evens}, {0, mostWord, odds}, {mostWord, mostWord, most},
		{mostWord - 1, mostWord, most - 1}, {mostWord, mostWord - 1, most - 2},
		{1<<31 - 1, mostWord, most - 1<<62}, {mostWord, 1<<31 - 1, 1<<63 - 1},
		{0x55555555, 0, 0x1111111111111111}, {0, 0x55555555, 0x2222222222222222},
		{0xaaaaaaaa, 0, 0x4444444444444444}, {0, 0xaaaaaaaa, 0x8888888888888888},
	} {
		if key := morton.Key(c.x, c.y); key != c.key {
			t.Errorf("6.1: Key(%x, %x) = %x, not %x", c.x, c.y, key, c.key)
		}
		if x, y := morton.Split(c.key); x != c.x || y != c.y {
			t.Errorf("6.1: Split(%x) = %x, %x, not %x, %x", c.key, x, y, c.x, c.y)
		}
	}
}

// Each bit alone, and each left out of all of them, on either axis.
func TestEachBit(t *testing.T) {
	for i := range 32 {
		bit, across, up := uint32(1)<<i, uint64(1)<<(2*i), uint64(2)<<(2*i)
		for _, c := range []struct {
			x, y uint32
			key  uint64
		}{
			{bit, 0, across}, {0, bit, up}, {bit, bit, across + up},
			{mostWord - bit, mostWord, most - across}, {mostWord, mostWord - bit, most - up},
			{mostWord - bit, 0, evens - across}, {0, mostWord - bit, odds - up},
			{bit, mostWord, odds + across}, {mostWord, bit, evens + up},
		} {
			if key := morton.Key(c.x, c.y); key != c.key {
				t.Errorf("6.1: bit %d: Key(%x, %x) = %x, not %x", i, c.x, c.y, key, c.key)
			}
			if x, y := morton.Split(c.key); x != c.x || y != c.y {
				t.Errorf("6.1: bit %d: Split(%x) = %x, %x, not %x, %x", i, c.key, x, y, c.x, c.y)
			}
		}
	}
}

// checkKey asks for the Key of x and y, and for the Split of what it must be, twice.
func checkKey(t *testing.T, x, y uint32) {
	t.Helper()
	want := keyOf(x, y)
	for range 2 {
		key := morton.Key(x, y)
		if key != want {
			t.Fatalf("6.1: Key(%x, %x) = %x, not %x", x, y, key, want)
		}
		if a, b := morton.Split(want); a != x || b != y {
			t.Fatalf("6.1: Split(%x) = %x, %x, not %x, %x", want, a, b, x, y)
		}
		if a, b := morton.Split(key); a != x || b != y {
			t.Fatalf("6.2: Split of Key(%x, %x) = %x, %x", x, y, a, b)
		}
	}
}

func TestKeyAtEdges(t *testing.T) {
	for _, x := range coordinates() {
		for _, y := range coordinates() {
			checkKey(t, x, y)
		}
	}
}

func TestKeyOfAny(t *testing.T) {
	var w words = 1
	for range 50000 {
		a, b := w.word(), w.word()
		checkKey(t, uint32(a)>>(a>>59), uint32(b)>>(b>>59))
	}
}

// checkSplit asks for what key is the Key of: of each key there is one such x and y.
func checkSplit(t *testing.T, key uint64) {
	t.Helper()
	x, y := morton.Split(key)
	if keyOf(x, y) != key || morton.Key(x, y) != key {
		t.Fatalf("6.1: Split(%x) = %x, %x, of which the Key is %x", key, x, y, morton.Key(x, y))
	}
	// Each of them hangs on bits of its own alone.
	if a, b := morton.Split(key & evens); a != x || b != 0 {
		t.Fatalf("6.1: Split(%x) = %x, %x, not %x, 0", key&evens, a, b, x)
	}
	if a, b := morton.Split(key & odds); a != 0 || b != y {
		t.Fatalf("6.1: Split(%x) = %x, %x, not 0, %x", key&odds, a, b, y)
	}
}

func TestSplitAtEdges(t *testing.T) {
	for _, key := range keys() {
		checkSplit(t, key)
	}
}

func TestSplitOfAny(t *testing.T) {
	var w words = 2
	for range 50000 {
		checkSplit(t, w.word()>>(w.word()%64))
	}
}
