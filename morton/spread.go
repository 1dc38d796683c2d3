package morton

// Bits at every other place; what is ahead of that on the way to it: bits in
// pairs, in fours, in eights and in sixteens, with as many places left between.
const (
	ones     = 0x5555555555555555
	pairs    = 0x3333333333333333
	fours    = 0x0f0f0f0f0f0f0f0f
	eights   = 0x00ff00ff00ff00ff
	sixteens = 0x0000ffff0000ffff
)

// spread moves bit i of w to place 2i.
func spread(w uint32) uint64 {
	n := uint64(w)
	n = (n | n<<16) & sixteens
	n = (n | n<<8) & eights
	n = (n | n<<4) & fours
	n = (n | n<<2) & pairs
	return (n | n<<1) & ones
}

// gathered moves bit 2i of n to place i; the other bits are left out.
func gathered(n uint64) uint32 {
	n &= ones
	n = (n | n>>1) & pairs
	n = (n | n>>2) & fours
	n = (n | n>>4) & eights
	n = (n | n>>8) & sixteens
	return uint32(n | n>>16)
}
