package pair_test

import (
	"math/big"
	"testing"

	"perigee/api"
	"perigee/pair"
)

// call is what Pull is asked with.
type call struct {
	g, a, b api.Fix
	d       api.Vec
	eps, h  api.Fix
}

func (c call) pull() (api.Vec, api.Errno) { return pair.Pull(c.g, c.a, c.b, c.d, c.eps, c.h) }

// numbers are the places in which c has a number.
func (c *call) numbers() [7]*api.Fix {
	return [7]*api.Fix{&c.g, &c.a, &c.b, &c.d.X, &c.d.Y, &c.eps, &c.h}
}

// The steps of the chapter that may have an error.
const (
	xByX = iota
	yByY
	len2
	mulEps
	addEps
	mulB
	mulG
	mulH
	divR2
	divR
	scaleX
	scaleY
	done
)

// work is the chapter's steps, worked out without limits: after the first error the others go on, and none has a say.
type work struct {
	e    api.Errno
	step int // that of the error
}

func (w *work) fail(step int, e api.Errno) {
	if w.e == api.OK {
		w.e, w.step = e, step
	}
}

func (w *work) within(step int, n *big.Int) *big.Int {
	if _, ok := ofUnits(n); !ok {
		w.fail(step, api.ErrOver)
	}
	return n
}

func (w *work) times(step int, a, b *big.Int) *big.Int {
	return w.within(step, near(new(big.Int).Mul(a, b), power(64)))
}

func (w *work) plus(step int, a, b *big.Int) *big.Int {
	return w.within(step, new(big.Int).Add(a, b))
}

func (w *work) over(step int, a, b *big.Int) *big.Int {
	if b.Sign() == 0 {
		w.fail(step, api.ErrZero)
		return new(big.Int)
	}
	return w.within(step, near(new(big.Int).Lsh(a, 64), b))
}

// want is what Pull must tell, and the step of the error, or done.
func (c call) want() (api.Vec, api.Errno, int) {
	w := work{step: done}
	x, y, eps := units(c.d.X), units(c.d.Y), units(c.eps)
	x2 := w.times(xByX, x, x)
	y2 := w.times(yByY, y, y)
	far := w.plus(len2, x2, y2)
	r2 := w.plus(addEps, far, w.times(mulEps, eps, eps))
	r := new(big.Int).Sqrt(new(big.Int).Lsh(r2, 64))
	ab := w.times(mulB, units(c.a), units(c.b))
	gab := w.times(mulG, units(c.g), ab)
	k := w.over(divR, w.over(divR2, w.times(mulH, gab, units(c.h)), r2), r)
	x, y = w.times(scaleX, x, k), w.times(scaleY, y, k)
	if w.e != api.OK {
		return api.Vec{}, w.e, w.step
	}
	gotX, _ := ofUnits(x)
	gotY, _ := ofUnits(y)
	return at(gotX, gotY), api.OK, w.step
}

// check holds Pull of c against the steps, and against what follows; it tells where they ended.
func check(t *testing.T, c call) int {
	t.Helper()
	want, wrong, step := c.want()
	got, e := c.pull()
	if got != want || e != wrong {
		t.Fatalf("10.1: Pull of %x = %x, %d, not %x, %d (step %d)", c, got, e, want, wrong, step)
	}
	checkAbout(t, c, got, e)
	return step
}

// checkAbout holds what the other one gets, and what is told of a time turned about.
func checkAbout(t *testing.T, c call, got api.Vec, e api.Errno) {
	t.Helper()
	other, back := c, c
	other.a, other.b, other.d = c.b, c.a, about(c.d)
	back.h = neg(c.h)
	for _, o := range []call{other, back} {
		if turned, f := o.pull(); turned != about(got) || f != e {
			t.Fatalf("10.2: Pull of %x = %x, %d, but of %x it is %x, %d", c, got, e, o, turned, f)
		}
	}
	other.h = back.h
	if same, f := other.pull(); same != got || f != e {
		t.Fatalf("10.2: Pull of %x = %x, %d, but with all turned about it is %x, %d", c, got, e, same, f)
	}
}

// exchanged is c with both axes changed for one another.
func (c call) exchanged() call {
	c.d = at(c.d.Y, c.d.X)
	return c
}
