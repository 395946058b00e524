package cells_test

import (
	"sync"
	"testing"

	"ballast/api"
	"ballast/cells"
)

// model is a memory that is plainly right: accesses one behind the other.
type model struct {
	words []int64
	steps int
}

func (m *model) do(kind, at int, old, word int64) told {
	if at < 0 || at >= len(m.words) {
		return told{errno: api.ErrAddr}
	}
	m.steps++
	was := m.words[at]
	switch kind {
	case 0:
		return told{word: was}
	case 1:
		m.words[at] = word
		return told{}
	case 2:
		if was == old {
			m.words[at] = word
		}
		return told{done: was == old}
	default:
		m.words[at] = was + word
		return told{word: was}
	}
}

func do(c *cells.Cells, kind, at int, old, word int64) told {
	switch kind {
	case 0:
		return load(c, at)
	case 1:
		return store(c, at, word)
	case 2:
		return swap(c, at, old, word)
	default:
		return add(c, at, word)
	}
}

// P1.3, R4: each access sees all that stand ahead of it; the same calls tell
// the same, in two memories that don't know of each other.
func TestAccessesSeeAllAhead(t *testing.T) {
	const cellsOf = 5
	m := &model{words: make([]int64, cellsOf)}
	c, twin := cells.New(cellsOf), cells.New(cellsOf)
	script := uint32(1)
	next := func(below uint32) int {
		script = script*1664525 + 1013904223
		return int((script >> 16) % below)
	}
	for i := range 20000 {
		kind, at := next(4), next(cellsOf+2)-1
		old, word := int64(next(3)), int64(next(3))
		want := m.do(kind, at, old, word)
		got, again := do(c, kind, at, old, word), do(twin, kind, at, old, word)
		if got != want || again != want || c.Steps() != m.steps {
			t.Fatalf("access %d (kind %d at %d): %v, %v, Steps %d, want %v, Steps %d", i, kind, at, got, again, c.Steps(), want, m.steps)
		}
		sameWords(t, "all", c.Words(0, cellsOf), m.words...)
	}
}

// together has each of several goroutines do a deed many times, at once.
func together(goroutines, times int, deed func(who, time int)) {
	var all sync.WaitGroup
	for who := range goroutines {
		all.Go(func() {
			for time := range times {
				deed(who, time)
			}
		})
	}
	all.Wait()
}

// P1.3: adds by many at once have one order: each word ahead is told once.
func TestAddsHaveOneOrder(t *testing.T) {
	const many, times = 8, 5000
	c := cells.New(2)
	ahead := make([][times]int64, many)
	together(many, times, func(who, time int) {
		ahead[who][time], _ = c.Add(1, 1)
	})
	same(t, "Steps", c.Steps(), many*times)
	sameWords(t, "all", c.Words(0, 2), 0, many*times)
	tellings := make([]int, many*times)
	for who := range ahead {
		last := int64(-1)
		for _, w := range ahead[who] {
			if w <= last || w >= many*times {
				t.Fatalf("%d was told %d behind %d", who, w, last)
			}
			last = w
			tellings[w]++
		}
	}
	for w, n := range tellings {
		if n != 1 {
			t.Fatalf("%d was told %d times", w, n)
		}
	}
}

// P1.3: of many that swap one word from the same number, one is told true.
func TestSwapsHaveOneWinner(t *testing.T) {
	const many, rounds = 8, 2000
	c := cells.New(rounds)
	won := make([][rounds]bool, many)
	together(many, rounds, func(who, round int) {
		won[who][round], _ = c.Swap(round, 0, int64(who)+1)
	})
	same(t, "Steps", c.Steps(), many*rounds)
	for round := range rounds {
		winners, winner := 0, 0
		for who := range won {
			if won[who][round] {
				winners, winner = winners+1, who
			}
		}
		word, _ := c.Load(round)
		if winners != 1 || word != int64(winner)+1 {
			t.Fatalf("round %d: %d winners, the word is %d", round, winners, word)
		}
	}
}

// P1.3: who sees a later store of another one sees all its earlier ones.
func TestStoresAreSeenInOrder(t *testing.T) {
	const times = 20000
	c := cells.New(2)
	together(2, times, func(who, time int) {
		if who == 0 {
			c.Store(0, int64(time))
			c.Store(1, int64(time))
			return
		}
		later, _ := c.Load(1)
		earlier, _ := c.Load(0)
		if earlier < later {
			t.Errorf("saw %d, but ahead of it only %d", later, earlier)
		}
	})
	same(t, "Steps", c.Steps(), 4*times)
}
