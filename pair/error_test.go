package pair_test

import (
	"testing"

	"perigee/api"
)

// wrong is the error that Pull of a call must tell, and the step that has it.
type wrong struct {
	call
	e    api.Errno
	step int
}

func checkWrong(t *testing.T, l []wrong) {
	t.Helper()
	for _, c := range l {
		if step := check(t, c.call); step != c.step {
			t.Errorf("10.1: Pull of %x ends with step %d, not %d", c.call, step, c.step)
		}
		if got, e := c.pull(); got != (api.Vec{}) || e != c.e {
			t.Errorf("10.1: Pull of %x = %x, %d, not %d", c.call, got, e, c.e)
		}
	}
}

func TestEachStepsError(t *testing.T) {
	big := n(1 << 32)
	checkWrong(t, []wrong{
		{call{n(1), n(1), n(1), v(1<<40, 0), n(0), n(1)}, api.ErrOver, xByX},
		{call{n(1), n(1), n(1), at(big, nought), n(0), n(1)}, api.ErrOver, xByX},
		{call{n(1), n(1), n(1), v(1, -1<<32), n(0), n(1)}, api.ErrOver, yByY},
		{call{n(1), n(1), n(1), v(1<<31, -1<<31), n(0), n(1)}, api.ErrOver, len2},
		{call{n(1), n(1), n(1), v(1, 2), big, n(1)}, api.ErrOver, mulEps},
		{call{n(1), n(1), n(1), v(1, 2), neg(big), n(1)}, api.ErrOver, mulEps},
		{call{n(1), n(1), n(1), v(1<<31, 1<<30), n(0xb504f333), n(1)}, api.ErrOver, addEps},
		{call{n(1), big, n(1 << 31), v(1, 2), n(0), n(1)}, api.ErrOver, mulB},
		{call{n(1), neg(big), n(1 << 40), v(1, 2), n(0), n(1)}, api.ErrOver, mulB},
		{call{big, n(1 << 20), n(1 << 11), v(1, 2), n(0), n(1)}, api.ErrOver, mulG},
		{call{n(1 << 11), n(1 << 20), n(1 << 20), v(1, 2), n(0), n(-1 << 12)}, api.ErrOver, mulH},
		{call{n(1), n(1), n(1), v(0, 0), n(0), n(1)}, api.ErrZero, divR2},
		{call{n(0), n(0), n(0), v(0, 0), n(0), n(0)}, api.ErrZero, divR2},
		{call{greatest, n(1), n(1), at(of(0, half), nought), n(0), n(1)}, api.ErrOver, divR2},
		{call{n(1 << 61), n(1), n(1), at(nought, of(0, half)), n(0), n(-1)}, api.ErrOver, divR2},
		{call{n(1 << 60), n(1), n(1), at(nought, of(0, half)), n(0), n(-1)}, api.ErrOver, divR},
		{call{of(1<<60, 0), n(1), n(1), v(0, 0), of(0, half), n(1)}, api.ErrOver, divR},
	})
	// Just within: each of these is one bit, or one part, less.
	checkTold(t, []told{
		{call{of(1<<60-1, most), n(1), n(1), at(nought, of(0, half)), n(0), n(-1)}, at(nought, of(-1<<62, 4))},
		{call{n(1 << 59), n(1), n(1), at(nought, of(0, half)), n(0), n(-1)}, v(0, -1<<61)},
		{call{n(1 << 31), n(1 << 30), n(1), v(1, 0), n(0), n(1)}, v(1<<61, 0)},
		{call{n(1 << 11), n(1 << 20), n(1 << 20), v(0, 1), n(0), n(-1 << 11)}, v(0, -1<<62)},
	})
}

// What a later step would make good, or without an error, is not asked for.
func TestErrorsOfWhatWouldBeNought(t *testing.T) {
	big := n(1 << 40)
	for _, o := range []api.Fix{nought, part, n(1)} {
		checkWrong(t, []wrong{
			{call{o, o, o, v(1<<40, 0), o, o}, api.ErrOver, xByX},
			{call{o, o, o, v(0, 1<<40), o, o}, api.ErrOver, yByY},
			{call{o, o, o, v(0, 0), big, o}, api.ErrOver, mulEps},
			{call{o, big, big, v(0, 0), n(1), o}, api.ErrOver, mulB},
			{call{big, n(1 << 20), n(1 << 20), v(0, 0), n(1), o}, api.ErrOver, mulG},
			{call{n(1 << 20), n(1 << 20), n(1 << 20), v(0, 0), n(1), n(1 << 10)}, api.ErrOver, mulH},
			{call{o, o, n(0), v(0, 0), n(0), o}, api.ErrZero, divR2},
			{call{o, n(0), o, v(0, 0), n(0), o}, api.ErrZero, divR2},
			{call{n(0), o, o, v(0, 0), n(0), o}, api.ErrZero, divR2},
			{call{o, o, o, v(0, 0), n(0), n(0)}, api.ErrZero, divR2},
		})
	}
	// It is nought by which Scale would multiply, but not what comes ahead of that.
	checkWrong(t, []wrong{
		{call{greatest, n(1), n(1), v(0, 0), of(0, half), n(1)}, api.ErrOver, divR2},
		{call{n(1), n(1 << 40), n(1 << 40), v(1<<30, 0), n(0), part}, api.ErrOver, mulB},
		{call{part, n(1 << 40), n(1 << 40), v(1<<30, 0), n(0), n(1)}, api.ErrOver, mulB},
	})
}

// Of two that would err it is the first one's: that it is beyond counts ahead of that what it is divided by is nought.
func TestFirstOfTwoErrors(t *testing.T) {
	big, same := n(1<<40), v(0, 0)
	for _, near := range []api.Vec{same, at(part, nought), at(below, part)} {
		for _, eps := range []api.Fix{nought, part, below} {
			checkWrong(t, []wrong{
				{call{n(1), big, big, near, eps, n(1)}, api.ErrOver, mulB},
				{call{n(0), big, neg(big), near, eps, n(0)}, api.ErrOver, mulB},
				{call{big, big, n(1), near, eps, n(1)}, api.ErrOver, mulG},
				{call{neg(big), n(1), big, near, eps, n(0)}, api.ErrOver, mulG},
				{call{n(1), n(1), big, near, eps, neg(big)}, api.ErrOver, mulH},
				{call{big, n(1), n(1), near, eps, big}, api.ErrOver, mulH},
				{call{big, n(0), big, near, eps, big}, api.ErrZero, divR2},
			})
		}
	}
	checkWrong(t, []wrong{
		{call{big, big, big, at(big, big), big, big}, api.ErrOver, xByX},
		{call{big, big, big, at(nought, big), big, big}, api.ErrOver, yByY},
		{call{big, big, big, same, big, big}, api.ErrOver, mulEps},
		{call{big, big, big, same, nought, big}, api.ErrOver, mulB},
		{call{greatest, n(1), n(1), same, part, n(2)}, api.ErrOver, mulH},
		{call{lowest, n(1), n(1), same, nought, n(2)}, api.ErrOver, mulH},
		{call{greatest, n(1), n(1), same, part, n(1)}, api.ErrZero, divR2},
	})
}
