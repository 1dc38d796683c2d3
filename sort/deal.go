package sort

import "perigee/api"

const (
	keyBits   = 64
	digitBits = 8
	digits    = 1 << digitBits
)

// deal lays those of from into to, by the digit of their Key at shift alone;
// those of one digit stay in the order in which they stand.
func deal(to, from []api.Keyed, shift int) {
	next := starts(from, shift)
	for _, k := range from {
		d := digit(k.Key, shift)
		to[next[d]] = k
		next[d]++
	}
}

// starts tells for each digit how many of l have a lower one at shift: where
// the first that has it is to lie.
func starts(l []api.Keyed, shift int) [digits]int {
	var many, start [digits]int
	for _, k := range l {
		many[digit(k.Key, shift)]++
	}
	for d := 1; d < digits; d++ {
		start[d] = start[d-1] + many[d-1]
	}
	return start
}

func digit(key uint64, shift int) uint64 { return key >> shift % digits }
