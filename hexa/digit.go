package hexa

// digits are what 4 bits are written as.
const digits = "0123456789abcdef"

// behind is how many digits stand behind the point.
const behind = 16

// count tells how many digits w has without noughts ahead; nought has one.
func count(w uint64) int {
	n := 1
	for w >>= 4; w != 0; w >>= 4 {
		n++
	}
	return n
}

// appendDigits appends the lowest n digits of w.
func appendDigits(text []byte, w uint64, n int) []byte {
	for i := n - 1; i >= 0; i-- {
		text = append(text, digits[w>>(4*i)&15])
	}
	return text
}

// read tells the word that s writes; of what no digits are, or too many, it
// tells any word, for whoever asks holds its text against s.
func read(s string) uint64 {
	w := uint64(0)
	for i := range len(s) {
		w = w<<4 | digit(s[i])
	}
	return w
}

func digit(c byte) uint64 {
	if c <= '9' {
		return uint64(c) - '0'
	}
	return uint64(c) - 'a' + 10
}
