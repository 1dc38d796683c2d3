package hexa_test

import (
	"math"
	"math/big"
	"regexp"
	"strings"

	"perigee/api"
)

const (
	most  = 1<<64 - 1
	zeros = "0000000000000000"
)

var (
	least    = api.Fix{Hi: math.MinInt64}
	lowest   = api.Fix{Hi: math.MinInt64, Lo: 1}
	greatest = api.Fix{Hi: math.MaxInt64, Lo: most}
)

func of(hi int64, lo uint64) api.Fix { return api.Fix{Hi: hi, Lo: lo} }

// units are a, in parts of 2^64, as a number without limits.
func units(a api.Fix) *big.Int {
	n := new(big.Int).Lsh(big.NewInt(a.Hi), 64)
	return n.Add(n, new(big.Int).SetUint64(a.Lo))
}

func ofUnits(n *big.Int) api.Fix {
	hi := new(big.Int).Rsh(n, 64)
	lo := new(big.Int).Sub(n, new(big.Int).Lsh(hi, 64))
	return of(hi.Int64(), lo.Uint64())
}

// textOf is what Text must tell of a, worked out without the calls that are tested.
func textOf(a api.Fix) string {
	if a == least {
		return ""
	}
	n := units(a)
	sign := ""
	if n.Sign() < 0 {
		sign = "-"
	}
	s := n.Abs(n).Text(16)
	if short := 17 - len(s); short > 0 {
		s = strings.Repeat("0", short) + s
	}
	return sign + s[:len(s)-16] + "." + s[len(s)-16:]
}

var shape = regexp.MustCompile(`^(-?)(0|[1-9a-f][0-9a-f]*)\.([0-9a-f]{16})$`)

// numberOf is what Parse must tell of s, worked out without the calls that are tested.
func numberOf(s string) (api.Fix, bool) {
	m := shape.FindStringSubmatch(s)
	if m == nil {
		return api.Fix{}, false
	}
	n, _ := new(big.Int).SetString(m[2]+m[3], 16)
	if n.BitLen() > 127 || m[1] != "" && n.Sign() == 0 {
		return api.Fix{}, false
	}
	if m[1] != "" {
		n.Neg(n)
	}
	return ofUnits(n), true
}

// edges are the numbers that may be whose words are at an edge, or next to one, and those of each count of digits.
func edges() []api.Fix {
	his := []int64{math.MinInt64, math.MinInt64 + 1, -3, -2, -1, 0, 1, 2, 3, math.MaxInt64 - 1, math.MaxInt64, 0xabcdef, 0x123456789abcdef}
	los := []uint64{0, 1, 2, 3, 1<<63 - 1, 1 << 63, 1<<63 + 1, most - 1, most, 0x0123456789abcdef, 0xfedcba9876543210}
	for n := 4; n < 64; n += 4 {
		his = append(his, 1<<n-1, 1<<n, 1<<n+1, -1<<n-1, -1<<n, -1<<n+1)
		los = append(los, 1<<n-1, 1<<n, 1<<n+1, most<<n, 0xa<<n)
	}
	var l []api.Fix
	for _, hi := range his {
		for _, lo := range los {
			if a := of(hi, lo); a != least {
				l = append(l, a)
			}
		}
	}
	return l
}

// words are a row of numbers that look like any.
type words uint64

func (w *words) word() uint64 {
	*w += 0x9e3779b97f4a7c15
	n := uint64(*w)
	n = (n ^ n>>30) * 0xbf58476d1ce4e5b9
	n = (n ^ n>>27) * 0x94d049bb133111eb
	return n ^ n>>31
}

// fix is a number that may be, of any length and of either sign.
func (w *words) fix() api.Fix {
	n := new(big.Int).SetUint64(w.word())
	n.Lsh(n, 64).Or(n, new(big.Int).SetUint64(w.word()))
	n.Rsh(n, uint(1+w.word()%128))
	if w.word()%2 == 0 {
		n.Neg(n)
	}
	return ofUnits(n)
}
