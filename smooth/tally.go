package smooth

import (
	"math/bits"

	"hachure/api"
)

// How many numbers a word, and a block, stand for, as powers of 2.
const (
	wordBits  = 6
	blockBits = 12
)

// tally is which numbers are there, a bit for each, and how many of each block.
type tally struct {
	words  []uint64
	blocks []int64
}

func newTally(n int) *tally {
	return &tally{make([]uint64, n>>wordBits+1), make([]int64, n>>blockBits+1)}
}

// put lays the numbers of the rectangle's cells, of those of a grid w wide, that aren't there.
func (t *tally) put(numbers []uint32, w int64, r api.Rect) {
	for y := r.Y0; y <= r.Y1; y++ {
		for _, n := range numbers[y*w+r.X0 : y*w+r.X1+1] {
			t.words[n>>wordBits] |= 1 << (n % (1 << wordBits))
			t.blocks[n>>blockBits]++
		}
	}
}

// take takes the numbers of the rectangle's cells away, that are there.
func (t *tally) take(numbers []uint32, w int64, r api.Rect) {
	for y := r.Y0; y <= r.Y1; y++ {
		for _, n := range numbers[y*w+r.X0 : y*w+r.X1+1] {
			t.words[n>>wordBits] &^= 1 << (n % (1 << wordBits))
			t.blocks[n>>blockBits]--
		}
	}
}

// nth is the n-th of the numbers that are there, in order, counted from 0 on; there must be more.
func (t *tally) nth(n int64) int {
	block := 0
	for t.blocks[block] <= n {
		n -= t.blocks[block]
		block++
	}
	at := block << (blockBits - wordBits)
	for int64(bits.OnesCount64(t.words[at])) <= n {
		n -= int64(bits.OnesCount64(t.words[at]))
		at++
	}
	word := t.words[at]
	for range n {
		word &= word - 1 // without its lowest bit
	}
	return at<<wordBits + bits.TrailingZeros64(word)
}
