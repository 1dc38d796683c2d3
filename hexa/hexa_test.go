package hexa_test

import (
	"math"
	"strings"
	"testing"

	"perigee/api"
	"perigee/hexa"
)

// known are numbers and their texts, written out by hand.
func known() map[api.Fix]string {
	return map[api.Fix]string{
		of(0, 0):                       "0.0000000000000000",
		of(0, 1):                       "0.0000000000000001",
		of(-1, most):                   "-0.0000000000000001",
		of(0, 10):                      "0.000000000000000a",
		of(0, 16):                      "0.0000000000000010",
		of(0, 1<<60):                   "0.1000000000000000",
		of(-1, 0xf<<60):                "-0.1000000000000000",
		of(0, 1<<63):                   "0.8000000000000000",
		of(-1, 1<<63):                  "-0.8000000000000000",
		of(0, most):                    "0.ffffffffffffffff",
		of(-1, 1):                      "-0.ffffffffffffffff",
		of(0, 0x0123456789abcdef):      "0.0123456789abcdef",
		of(0, 0x00ab00cd00ef0000):      "0.00ab00cd00ef0000",
		of(1, 0):                       "1.0000000000000000",
		of(-1, 0):                      "-1.0000000000000000",
		of(1, 1):                       "1.0000000000000001",
		of(-2, most):                   "-1.0000000000000001",
		of(1, most):                    "1.ffffffffffffffff",
		of(-2, 1):                      "-1.ffffffffffffffff",
		of(2, 0):                       "2.0000000000000000",
		of(9, 0):                       "9.0000000000000000",
		of(10, 0):                      "a.0000000000000000",
		of(15, 0):                      "f.0000000000000000",
		of(-15, 0):                     "-f.0000000000000000",
		of(15, most):                   "f.ffffffffffffffff",
		of(16, 0):                      "10.0000000000000000",
		of(-16, 0):                     "-10.0000000000000000",
		of(255, 0):                     "ff.0000000000000000",
		of(256, 0):                     "100.0000000000000000",
		of(-0xabd, 0xfedcba9876543211): "-abc.0123456789abcdef",
		of(0x0fffffffffffffff, 0):      "fffffffffffffff.0000000000000000",
		of(0x1000000000000000, 0):      "1000000000000000.0000000000000000",
		of(-0x1000000000000000, 0):     "-1000000000000000.0000000000000000",
		of(0x123456789abcdef0, 0x0fedcba987654321): "123456789abcdef0.0fedcba987654321",
		of(math.MaxInt64, 0):                       "7fffffffffffffff.0000000000000000",
		of(math.MinInt64+1, 0):                     "-7fffffffffffffff.0000000000000000",
		greatest:                                   "7fffffffffffffff.ffffffffffffffff",
		lowest:                                     "-7fffffffffffffff.ffffffffffffffff",
		of(math.MinInt64, most):                    "-7fffffffffffffff.0000000000000001",
	}
}

func TestText(t *testing.T) {
	for a, want := range known() {
		if s := hexa.Text(a); s != want {
			t.Errorf("3.1: Text(%x) = %q, not %q", a, s, want)
		}
	}
	if s := hexa.Text(least); s != "" {
		t.Errorf("3.1: Text of the least of all = %q", s)
	}
}

func TestParse(t *testing.T) {
	for want, s := range known() {
		if a, ok := hexa.Parse(s); a != want || !ok {
			t.Errorf("3.1: Parse(%q) = %x, %t, not %x", s, a, ok, want)
		}
	}
}

// check holds Parse of any s, of whatever bytes, against what it must tell.
func check(t *testing.T, s string) {
	t.Helper()
	want, may := numberOf(s)
	if a, ok := hexa.Parse(s); a != want || ok != may {
		t.Fatalf("3.1: Parse(%q) = %x, %t, not %x, %t", s, a, ok, want, may)
	}
}

func none(t *testing.T, s string) {
	t.Helper()
	if a, ok := hexa.Parse(s); ok || a != (api.Fix{}) {
		t.Errorf("3.1: Parse(%q) = %x, %t", s, a, ok)
	}
}

func TestParseOfNone(t *testing.T) {
	for _, s := range []string{
		"", "-", "+", ".", "-.", " ", "0", "-0", "1", "-1", "0.", ".0", "-1.", "1.0",
		"-0." + zeros, "+0." + zeros, "+1." + zeros, "--1." + zeros, "-+1." + zeros, "1-." + zeros, "1." + zeros + "-", "1.-" + zeros, "1.-" + zeros[1:],
		"A." + zeros, "F." + zeros, "aB." + zeros, "1.A" + zeros[1:], "1." + zeros[1:] + "F", "0X1." + zeros, "0x1." + zeros, "x." + zeros,
		" 1." + zeros, "1 ." + zeros, "1. " + zeros, "1. " + zeros[1:], "1." + zeros + " ", "- 1." + zeros, "\t1." + zeros, "1." + zeros + "\n", "1." + zeros + "\r\n", "1." + zeros + "\x00", "\x001." + zeros,
		"1" + zeros, "-1" + zeros, "1," + zeros, "1:" + zeros, "1.." + zeros, "1.0.0" + zeros[2:], "1." + zeros + ".", "1." + zeros + "." + zeros, ".1." + zeros,
		"." + zeros, "-." + zeros, ".1" + zeros,
		"0." + zeros[1:], "0." + zeros + "0", "1." + zeros[1:], "1." + zeros + "0", "-1." + zeros[1:], "-1." + zeros + "0", "f.fffffffffffffff", "f.fffffffffffffffff",
		"00." + zeros, "01." + zeros, "-01." + zeros, "-00." + zeros, "0a." + zeros, "0000000000000001." + zeros, zeros + "." + zeros, "0" + zeros + "." + zeros, "07fffffffffffffff." + zeros,
		"8" + zeros[1:] + "." + zeros, "-8" + zeros[1:] + "." + zeros, "-8" + zeros[1:] + "." + zeros[1:] + "1", "f" + zeros[1:] + "." + zeros, "ffffffffffffffff.ffffffffffffffff", "-ffffffffffffffff.ffffffffffffffff",
		"1" + zeros + "." + zeros, "-1" + zeros + "." + zeros, "1" + zeros[1:] + "1." + zeros, "10000000000000001." + zeros, "-10000000000000001." + zeros, "1" + zeros + zeros + "." + zeros,
		"g." + zeros, "`." + zeros, "/." + zeros, ":." + zeros, "@." + zeros, "1.g" + zeros[1:], "1./" + zeros[1:], "1.:" + zeros[1:],
		"\x80." + zeros, "\xff." + zeros, "1.\xff" + zeros[1:], "é." + zeros, "１." + zeros, "−1." + zeros, "1٫" + zeros, "1．" + zeros, "1.0e+1", "inf", "nan", "null", "1/2", "½",
	} {
		none(t, s)
	}
}

func TestParseOfLongTexts(t *testing.T) {
	for _, n := range []int{17, 31, 32, 33, 1000, 1 << 20} {
		for _, c := range []string{"0", "1", "f", "-", ".", " ", "\xff"} {
			long := strings.Repeat(c, n)
			for _, s := range []string{long, long + "1." + zeros, long + "." + zeros, "1" + long + "." + zeros, "1." + long, "1." + long + zeros, "1." + zeros + long, "-" + long + "." + zeros, "-1." + long, "-1." + zeros + long} {
				none(t, s)
			}
		}
	}
}

// TestEveryByte goes through texts of numbers with each byte turned into each other, set beside it, and left out.
func TestEveryByte(t *testing.T) {
	for _, s := range known() {
		for i := range len(s) {
			check(t, s[:i]+s[i+1:])
			check(t, s[:i])
			check(t, s[i:])
		}
		for i := range len(s) + 1 {
			for c := range 256 {
				b := string([]byte{byte(c)})
				check(t, s[:i]+b+s[i:])
				if i < len(s) {
					check(t, s[:i]+b+s[i+1:])
				}
			}
		}
	}
}

// TestFewBytes goes through all short texts of a few letters.
func TestFewBytes(t *testing.T) {
	const letters = "-.01af"
	for n := range 6 * 6 * 6 * 6 * 6 {
		var ahead []byte
		for ; n > 0; n /= len(letters) {
			ahead = append(ahead, letters[n%len(letters)])
		}
		for _, rest := range []string{"", zeros[:13], zeros[:14], zeros[:15], zeros, "." + zeros, "0." + zeros, "123456789abc." + zeros} {
			check(t, string(ahead)+rest)
		}
	}
}

func turned(t *testing.T, a api.Fix) {
	t.Helper()
	s := hexa.Text(a)
	if want := textOf(a); s != want {
		t.Fatalf("3.1: Text(%x) = %q, not %q", a, s, want)
	}
	if back, ok := hexa.Parse(s); back != a || !ok {
		t.Fatalf("3.2: Parse(Text(%x)), of %q, = %x, %t", a, s, back, ok)
	}
}

func TestParseOfText(t *testing.T) {
	for _, a := range edges() {
		turned(t, a)
	}
	var w words = 3
	for range 200000 {
		turned(t, w.fix())
	}
	if a, ok := hexa.Parse(hexa.Text(least)); ok || a != (api.Fix{}) {
		t.Errorf("3.1: Parse of what the least of all has for a text = %x, %t", a, ok)
	}
}

// TestTextOfParse holds that one number has one text: what a text's number has for a text is that text.
func TestTextOfParse(t *testing.T) {
	for _, s := range known() {
		for i := range len(s) {
			for _, c := range "-.089afAFg " {
				other := s[:i] + string(c) + s[i+1:]
				if a, ok := hexa.Parse(other); ok && hexa.Text(a) != other {
					t.Errorf("3.1: Text(Parse(%q)) = %q", other, hexa.Text(a))
				}
			}
		}
	}
}

func FuzzParse(f *testing.F) {
	for _, s := range known() {
		f.Add(s)
	}
	f.Fuzz(check)
}
