package mark

import (
	"math/rand"
	"testing"

	"ballast/api"
	"ballast/bits"
	"ballast/blocks"
	"ballast/cells"
)

// watched is a heap that counts how often each reference was read.
type watched struct {
	reader
	read map[int]int
}

func (h watched) ref(at int) int64 {
	h.read[at]++
	return h.reader.ref(at)
}

// net is a heap of objects of two references, which lead anywhere among the
// next ones and back to the first one.
func net(r *rand.Rand, l []api.Class, n int) *cells.Cells {
	c := cells.New(1 + 3*n)
	for i := range n {
		blocks.Lay(c, l, 1+3*i, 1, 0)
		for k := 1; k <= 2; k++ {
			to := (i + r.Intn(4)) % n
			c.Put(1+3*i+k, int64(1+3*to))
		}
	}
	return c
}

// P11.4: each object that is reached is scanned once: each of its references
// is read once, and no other word is taken for one.
func TestEachReferenceIsReadOnce(t *testing.T) {
	l := []api.Class{{Refs: 2}}
	for seed := range int64(200) {
		r := rand.New(rand.NewSource(seed))
		heap, workers := net(r, l, 1+r.Intn(40)), 1+r.Intn(5)
		m, errno := New(heap, l, bits.New(heap.Len()), cells.New(Need(workers, 2, 1)), workers, 2, 1)
		if errno != api.OK {
			t.Fatal(errno)
		}
		seen := watched{m.heap, map[int]int{}}
		m.heap = seen
		m.Root(1, 1, 1)
		for n := 0; !m.Done() && n < 1<<20; n++ {
			m.Step(r.Intn(workers))
		}
		reached, _ := blocks.Reach(heap, l, 1, heap.Len(), 1)
		for _, at := range reached {
			if seen.read[at+1] != 1 || seen.read[at+2] != 1 {
				t.Fatalf("seed %d: the references of %d were read %d and %d times", seed, at, seen.read[at+1], seen.read[at+2])
			}
		}
		if len(seen.read) != 2*len(reached) {
			t.Fatalf("seed %d: %d references were read, of %d objects", seed, len(seen.read), len(reached))
		}
	}
}
