// Package word is layer 1: nodes' words: see shared/doc/01-word.md.
package word

import "sherpa/api"

const (
	verWidth = 18
	lastVer  = 1<<verWidth - 1
)

// fieldWidths is how many bits each field has, from the lowest field on.
var fieldWidths = [...]int{10, 9, 1, 5, verWidth}

// fields is a word's numbers, in the order of fieldWidths; a mark is 1.
type fields [len(fieldWidths)]int

// Word is a node's.
type Word struct {
	Key, Next  int
	Mark       bool
	Claim, Ver int
}

// numbers is a word as its fields.
func (w Word) numbers() fields {
	f := fields{w.Key, w.Next, 0, w.Claim, w.Ver}
	if w.Mark {
		f[2] = 1
	}
	return f
}

// Put is a word's bits.
func Put(w Word) (uint64, api.Errno) {
	var x uint64
	at := 0
	for i, n := range w.numbers() {
		if n < 0 || n >= 1<<fieldWidths[i] {
			return 0, api.ErrRange
		}
		x |= uint64(n) << at
		at += fieldWidths[i]
	}
	return x, api.OK
}

// Get is the word of bits.
func Get(x uint64) Word {
	var f fields
	for i := range f {
		f[i] = int(x & (1<<fieldWidths[i] - 1))
		x >>= fieldWidths[i]
	}
	return Word{Key: f[0], Next: f[1], Mark: f[2] == 1, Claim: f[3], Ver: f[4]}
}

// Right tells whether bits are a word's.
func Right(x uint64) bool {
	// Get drops foreign bits, so only a word's own bits come back whole.
	own, _ := Put(Get(x))
	return own == x
}

// Link is a word with another next.
func (w Word) Link(next int) Word {
	w.Next = next
	return w.later()
}

// Marked is a word with a mark.
func (w Word) Marked() Word {
	w.Mark = true
	return w.later()
}

// Claimed is a word with a claim. Its version stays, so that all who help find the word that they were told of.
func (w Word) Claimed(by, next int, mark bool) Word {
	w.Claim, w.Next, w.Mark = by+1, next, mark // claim 0 is none, so thread 0 claims with 1
	return w
}

// Free is a word without a claim.
func (w Word) Free() Word {
	w.Claim = 0
	return w.later()
}

// later is a word with the next version.
func (w Word) later() Word {
	if w.Ver == lastVer {
		w.Ver = 0
	} else {
		w.Ver++
	}
	return w
}

// Bits is where fields begin, and where the last one ends.
func Bits(widths ...int) []int {
	begins := make([]int, 0, len(widths)+1)
	at := 0
	for _, width := range widths {
		begins = append(begins, at)
		at += max(width, 0)
	}
	return append(begins, at)
}
