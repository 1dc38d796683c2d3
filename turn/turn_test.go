package turn_test

import (
	"math"
	"testing"

	"perigee/api"
	"perigee/turn"
)

// float is a, as near as floats go.
func float(a api.Fix) float64 { return float64(a.Hi) + float64(a.Lo)/(1<<64) }

func near(a api.Fix, want, by float64) bool { return math.Abs(float(a)-want) <= by }

// The directions by hand: the roots of half of 1 and c, and of half of 1 less c, from c nought on.
func TestTableByHand(t *testing.T) {
	want := [][2]uint64{
		{0xb504f333f9de6484, 0xb504f333f9de6484},
		{0xec835e79946a3145, 0x61f78a9abaa58b46},
		{0xfb14be7fbae58156, 0x31f17078d34c156e},
		{0xfec46d1e89292cf0, 0x1917a6bc29b42be2},
		{0xffb10f1bcb6bef1d, 0x0c8fb2f886ec09f4},
		{0xffec4304266865d9, 0x0648557de8d99f8b},
		{0xfffb10b4dc96dabb, 0x03243a3f9bd8f0a8},
		{0xfffec42c7454926b, 0x01921f0fe6700757},
		{0xffffb10b10e80e95, 0x00c90fc5f6652635},
		{0xffffec42c3773236, 0x006487eabb991d77},
		{0xfffffb10b0d19f76, 0x003243f655d966a8},
		{0xfffffec42c33a50c, 0x001921fb49ee4f60},
		{0xffffffb10b0cdd15, 0x000c90fda8d75b57},
		{0xffffffec42c33682, 0x0006487ed4e7c78b},
	}
	got := turn.Table()
	if len(got) != len(want) {
		t.Fatalf("5.1: Table tells %d directions", len(got))
	}
	for i, d := range got {
		if d != at(of(0, want[i][0]), of(0, want[i][1])) {
			t.Errorf("5.1: Table()[%d] = %x", i, d)
		}
		angle := math.Pi / float64(int(4)<<i)
		if !near(d.X, math.Cos(angle), 1e-14) || !near(d.Y, math.Sin(angle), 1e-14) {
			t.Errorf("5.1: Table()[%d] = %x is not the direction of %v", i, d, angle)
		}
	}
}

// What a caller writes into Table, or appends to it, is not to be seen in what the next call tells.
func TestTableIsNew(t *testing.T) {
	first, v := turn.Table(), api.Vec{X: n(3), Y: n(-5)}
	turned, _ := turn.Rotate(v, 12345)
	way := turn.Of(-4321)
	written, other := turn.Table(), turn.Table()
	for i := range written {
		written[i] = api.Vec{X: greatest, Y: lowest}
	}
	spare := written[:cap(written)]
	for i := range spare {
		spare[i] = api.Vec{X: lowest, Y: greatest}
	}
	_ = append(written[:0], v, v, v)
	for _, l := range [][]api.Vec{other, turn.Table()} {
		for i := range first {
			if l[i] != first[i] {
				t.Errorf("R3: Table()[%d] = %x, after another one was written into", i, l[i])
			}
		}
	}
	if again, _ := turn.Rotate(v, 12345); again != turned || turn.Of(-4321) != way {
		t.Error("R3: Rotate and Of, after a Table was written into")
	}
}

func TestQuartersByHand(t *testing.T) {
	for _, c := range []struct {
		a int
		v api.Vec
	}{
		{0, v(1, 0)}, {quarter, v(0, 1)}, {about, v(-1, 0)}, {about + quarter, v(0, -1)}, {whole, v(1, 0)},
		{whole + quarter, v(0, 1)}, {-quarter, v(0, -1)}, {-about, v(-1, 0)}, {-about - quarter, v(0, 1)}, {-whole, v(1, 0)},
		{-whole - quarter, v(0, -1)}, {3*whole + about, v(-1, 0)}, {1 << 40, v(1, 0)}, {1<<40 + quarter, v(0, 1)},
		{1<<62 + about, v(-1, 0)}, {math.MinInt64, v(1, 0)}, {math.MinInt64 + quarter, v(0, 1)}, {math.MaxInt64 - whole + 1, v(1, 0)},
	} {
		if got := turn.Of(c.a); got != c.v {
			t.Errorf("5.2: Of(%d) = %x", c.a, got)
		}
		// (3, 5) is 3 of the way, and 5 of that a quarter on.
		across, up := c.v.X.Hi, c.v.Y.Hi
		if got, e := turn.Rotate(v(3, 5), c.a); got != v(3*across-5*up, 3*up+5*across) || e != api.OK {
			t.Errorf("5.2: Rotate((3, 5), %d) = %x, %d", c.a, got, e)
		}
	}
}

func TestOfByHand(t *testing.T) {
	const root = 0xb504f333f9de6484
	for _, c := range []struct {
		a int
		v api.Vec
	}{
		{eighth, at(of(0, root), of(0, root))},
		{eighth + quarter, at(of(-1, most-root+1), of(0, root))},
		{eighth + about, at(of(-1, most-root+1), of(-1, most-root+1))},
		{-eighth, at(of(0, root), of(-1, most-root+1))},
		{1, at(of(0, 0xffffffec42c33682), of(0, 0x0006487ed4e7c78b))},
		{whole + 1, at(of(0, 0xffffffec42c33682), of(0, 0x0006487ed4e7c78b))},
		{quarter + 1, at(of(-1, most-0x0006487ed4e7c78b+1), of(0, 0xffffffec42c33682))},
		{4096, at(of(0, 0xec835e79946a3145), of(0, 0x61f78a9abaa58b46))},
		{2048, at(of(0, 0xfb14be7fbae58156), of(0, 0x31f17078d34c156e))},
	} {
		if got := turn.Of(c.a); got != c.v {
			t.Errorf("5.2: Of(%d) = %x, not %x", c.a, got, c.v)
		}
	}
	for _, a := range angles() {
		// What is behind the whole turns is asked of the floats: of more turns they know too little.
		angle := float64(uint16(a)) * math.Pi / about
		if d := turn.Of(a); !near(d.X, math.Cos(angle), 1e-13) || !near(d.Y, math.Sin(angle), 1e-13) {
			t.Errorf("5.2: Of(%d) = %x is not the direction of %v", a, d, angle)
		}
	}
}

// row is a call of Rotate by hand.
type row struct {
	v    api.Vec
	a    int
	want api.Vec
	e    api.Errno
}

func checkRows(t *testing.T, l []row) {
	t.Helper()
	for _, c := range l {
		if got, e := turn.Rotate(c.v, c.a); got != c.want || e != c.e {
			t.Errorf("5.2: Rotate(%x, %d) = %x, %d", c.v, c.a, got, e)
		}
	}
}

func TestRotateByHand(t *testing.T) {
	part, below := of(0, 1), of(-1, most)
	twice, down := of(1, 0x6a09e667f3bcc908), of(-2, most-0x6a09e667f3bcc908+1)
	checkRows(t, []row{
		{a: 0},
		{a: 12345},
		{a: -1},
		{v: v(7, 0), a: 0, want: v(7, 0)},
		{v: v(-7, 0), a: quarter, want: v(0, -7)},
		{v: v(0, 7), a: quarter, want: v(-7, 0)},
		{v: v(0, -7), a: -quarter, want: v(-7, 0)},
		{v: v(-2, -3), a: about, want: v(2, 3)},
		// The products are alike, so that one of the parts is nought.
		{v: v(1, 1), a: eighth, want: at(nought, twice)},
		{v: v(-1, -1), a: eighth, want: at(nought, down)},
		{v: v(1, -1), a: eighth, want: at(twice, nought)},
		{v: v(-1, 1), a: eighth, want: at(down, nought)},
		// Each product is rounded for itself: 0.7 parts to one, on both sides of nought, and 0.4 to none.
		{v: at(part, nought), a: eighth, want: at(part, part)},
		{v: at(nought, part), a: eighth, want: at(below, part)},
		{v: at(part, part), a: eighth, want: at(nought, of(0, 2))},
		{v: at(part, nought), a: 4096, want: at(part, nought)},
		{v: at(nought, below), a: 4096, want: at(nought, below)},
	})
}

func TestRotateAtTheEndByHand(t *testing.T) {
	// Twice this times the root of a half is two parts less than 2^63.
	within := of(0x5a827999fcef3242, 0x597d89b3754abe9e)
	beyond := of(0x5a827999fcef3242, 0x597d89b3754abe9f)
	last := of(math.MaxInt64, most-1)
	checkRows(t, []row{
		{v: at(within, within), a: eighth, want: at(nought, last)},
		{v: at(beyond, beyond), a: eighth, e: api.ErrOver},
		{v: at(within, within), a: eighth + about, want: at(nought, neg(last))},
		{v: at(neg(within), neg(within)), a: eighth, want: at(nought, neg(last))},
		{v: at(neg(beyond), neg(beyond)), a: eighth, e: api.ErrOver},
		{v: at(within, neg(within)), a: eighth, want: at(last, nought)},
		{v: at(beyond, neg(beyond)), a: eighth, e: api.ErrOver},
		{v: at(neg(within), within), a: eighth, want: at(neg(last), nought)},
		{v: at(neg(beyond), beyond), a: eighth, e: api.ErrOver},
		// Whole quarters are exact however long the way is.
		{v: at(greatest, lowest), a: quarter, want: at(greatest, greatest)},
		{v: at(greatest, greatest), a: quarter, want: at(lowest, greatest)},
		{v: at(greatest, greatest), a: about, want: at(lowest, lowest)},
		{v: at(lowest, greatest), a: -quarter, want: at(greatest, greatest)},
		{v: at(greatest, lowest), a: math.MaxInt64 - whole + 1, want: at(greatest, lowest)},
		{v: at(greatest, greatest), a: eighth, e: api.ErrOver},
		{v: at(greatest, lowest), a: eighth, e: api.ErrOver},
		// On the way to nearly a quarter it leaves the numbers, and a quarter at once does not.
		{v: at(beyond, beyond), a: quarter - 1, e: api.ErrOver},
		{v: at(beyond, beyond), a: quarter, want: at(neg(beyond), beyond)},
	})
}

// Long ways leave the numbers on the way by the highest bit first, or by the lowest first, not by both.
func TestHighestBitFirst(t *testing.T) {
	if got, e := turn.Rotate(v(3<<61, 3<<61), eighth+4096); got != (api.Vec{}) || e != api.ErrOver {
		t.Errorf("5.2: half of a quarter on, this way is straight up, and too long: %x, %d", got, e)
	}
	if got, e := turn.Rotate(v(13<<58, 31<<58), eighth+4096); e != api.OK || got.X.Hi >= 0 || got.Y.Hi <= 0 {
		t.Errorf("5.2: only a quarter of a quarter on this way is straight up: %x, %d", got, e)
	}
}

func checkQuarter(t *testing.T, v api.Vec, a int) {
	t.Helper()
	d, e := turn.Rotate(v, a)
	next, f := turn.Rotate(v, a+quarter)
	if e != f || next != at(neg(d.Y), d.X) {
		t.Fatalf("5.3: Rotate(%x, %d) = %x, %d, but a quarter more is %x, %d", v, a, d, e, next, f)
	}
}

func TestAQuarterMore(t *testing.T) {
	for _, a := range angles() {
		checkQuarter(t, v(1, 0), a)
		if d, next := turn.Of(a), turn.Of(a+quarter); next != at(neg(d.Y), d.X) {
			t.Errorf("5.3: Of(%d) = %x, but a quarter more is %x", a, d, next)
		}
		for _, v := range ways() {
			checkQuarter(t, v, a)
		}
	}
	var w words = 4
	for i := range 30000 {
		checkQuarter(t, w.vec([]uint64{127, 100, 64}[i%3]), w.angle())
	}
}

// Of what may not be nothing is said; still every call ends, tells the same again, and nothing beside an error.
func TestLeastOfAll(t *testing.T) {
	for _, x := range append(ends(), least) {
		for _, v := range []api.Vec{at(x, least), at(least, x)} {
			for _, a := range angles() {
				d, e := turn.Rotate(v, a)
				again, f := turn.Rotate(v, a)
				if d != again || e != f || e != api.OK && d != (api.Vec{}) {
					t.Fatalf("R1, R4: Rotate(%x, %d) = %x, %d, then %x, %d", v, a, d, e, again, f)
				}
			}
		}
	}
}
