package tree_test

import (
	"slices"

	"perigee/api"
)

const most = 1<<64 - 1

func of(key uint64, id int) api.Keyed { return api.Keyed{Key: key, Id: id} }

// list is one of bodies with these keys, in this order, with any numbers.
func list(keys ...uint64) []api.Keyed {
	var l []api.Keyed
	for i, key := range keys {
		l = append(l, of(key, 100-7*i))
	}
	return l
}

// rising is list of the keys in their order.
func rising(keys ...uint64) []api.Keyed {
	keys = slices.Clone(keys)
	slices.Sort(keys)
	return list(keys...)
}

// same is n times key.
func same(n int, key uint64) []uint64 { return slices.Repeat([]uint64{key}, n) }

// quartered is a list that rises, of as many bodies in each quarter of level as many tells, with the higher bits of high.
// The lower ones differ, but in such a way that bodies of one quarter go on together for some levels.
func quartered(level int, many [4]int, high uint64) []api.Keyed {
	place := 62 - 2*level
	high &^= 4<<place - 1
	var keys []uint64
	for q, n := range many {
		for i := range n {
			keys = append(keys, high|uint64(q)<<place|uint64(i*i)&(1<<place-1))
		}
	}
	return rising(keys...)
}

// words are a row of numbers that look like any.
type words uint64

func (w *words) word() uint64 {
	*w += 0x9e3779b97f4a7c15
	n := uint64(*w)
	n = (n ^ n>>30) * 0xbf58476d1ce4e5b9
	n = (n ^ n>>27) * 0x94d049bb133111eb
	return n ^ n>>31
}

// keys are n that look like any, but for their leading bits, which they may share.
func (w *words) keys(n int) []uint64 {
	high, shared := w.word(), w.word()%65
	narrow := w.word() % 65
	keys := make([]uint64, n)
	for i := range keys {
		low := w.word() >> narrow
		if w.word()%8 == 0 && i > 0 {
			low = keys[w.word()%uint64(i)]
		}
		keys[i] = high&^(most>>shared) | low&(most>>shared)
	}
	return keys
}
