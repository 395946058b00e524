// Package cells is layer 1: see shared/doc/01-cells.md.
package cells

import (
	"slices"
	"sync/atomic"

	"ballast/api"
)

// Cells is memory. A nil one and a zero one have no cells.
type Cells struct {
	words []int64
	steps atomic.Int64
}

// New is one of zeros.
func New(words int) *Cells {
	return &Cells{words: make([]int64, keep(words, api.MaxWords))}
}

// keep is n, kept from 0 to most.
func keep(n, most int) int { return min(max(n, 0), most) }

// deed is what an access brings along to its cell. Each method is a kind of
// access; all of them are atomic, so that accesses have one order whoever
// makes them.
type deed struct{ old, word int64 }

func (d deed) load(cell *int64) int64 { return atomic.LoadInt64(cell) }

func (d deed) store(cell *int64) int64 {
	atomic.StoreInt64(cell, d.word)
	return d.word
}

// swap is 1 or 0, since all deeds tell a word.
func (d deed) swap(cell *int64) int64 {
	if atomic.CompareAndSwapInt64(cell, d.old, d.word) {
		return 1
	}
	return 0
}

func (d deed) add(cell *int64) int64 { return atomic.AddInt64(cell, d.word) - d.word }

// access is the one way by which deeds come to cells: what finds no cell is
// not counted.
func (c *Cells) access(at int, do func(cell *int64) int64) (int64, api.Errno) {
	if at < 0 || at >= c.Len() {
		return 0, api.ErrAddr
	}
	c.steps.Add(1)
	return do(&c.words[at]), api.OK
}

// Load is the cell's word.
func (c *Cells) Load(at int) (int64, api.Errno) {
	return c.access(at, deed{}.load)
}

// Store has the cell be v.
func (c *Cells) Store(at int, v int64) api.Errno {
	_, errno := c.access(at, deed{word: v}.store)
	return errno
}

// Swap has the cell be new, if it is old, and tells whether it was.
func (c *Cells) Swap(at int, old, new int64) (bool, api.Errno) {
	told, errno := c.access(at, deed{old: old, word: new}.swap)
	return told == 1, errno
}

// Add adds to the cell, modulo 2^64, and tells its word ahead of that.
func (c *Cells) Add(at int, by int64) (int64, api.Errno) {
	return c.access(at, deed{word: by}.add)
}

// Len is how many cells there are.
func (c *Cells) Len() int {
	if c == nil {
		return 0
	}
	return len(c.words)
}

// Steps is how many accesses there were.
func (c *Cells) Steps() int {
	if c == nil {
		return 0
	}
	return int(c.steps.Load())
}

// Words is a copy of the words between two places; it is no access.
func (c *Cells) Words(from, to int) []int64 {
	from, to = keep(from, c.Len()), keep(to, c.Len())
	if from >= to {
		return nil
	}
	return slices.Clone(c.words[from:to])
}

// Put has the cells from at on be l; it is no access. A nil memory has no
// place to put even nothing at.
func (c *Cells) Put(at int, l ...int64) api.Errno {
	if c == nil || at < 0 || at > c.Len() || len(l) > c.Len()-at {
		return api.ErrAddr
	}
	copy(c.words[at:], l)
	return api.OK
}
