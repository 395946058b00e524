package sums

// worker is one of those who add up.
type worker struct {
	number int
	block  int // the one that it took last
	at, to int // which of that block's values are left
}

func newWorkers(workers int) []*worker {
	l := make([]*worker, workers)
	for number := range workers {
		l[number] = &worker{number: number}
	}
	return l
}

// phases are the workers' steps in each phase; such a step tells whether there
// was anything left to do.
func phases() [3]func(*Sums, *worker) bool {
	return [...]func(*Sums, *worker) bool{(*Sums).addValue, (*Sums).addBlock, (*Sums).tellValue}
}

// work is a step of who has not arrived at its phase's end. The last one to
// arrive is alone with the blocks, and so may have all be there again.
func (s *Sums) work(w *worker) {
	if phases()[s.gang.Phase()](s, w) {
		return
	}
	if last, _ := s.gang.Arrive(w.number); last {
		s.share.Reset()
	}
}

// take has a block be the worker's. Its values are left for later steps: this
// one has its access.
func (s *Sums) take(w *worker) bool {
	block, ok := s.share.Next()
	if ok {
		w.block, w.at = block, block*s.size
		w.to = min(w.at+s.size, len(s.values))
	}
	return ok
}

// addValue adds to the sum of the worker's block, which is nobody else's in
// this phase.
func (s *Sums) addValue(w *worker) bool {
	if w.at == w.to {
		return s.take(w)
	}
	s.blocks[w.block] += s.values[w.at]
	w.at++
	return true
}

// addBlock turns a block's own sum into that ahead of it, and is for worker 0
// alone, since each needs the one before.
func (s *Sums) addBlock(w *worker) bool {
	if w.number != 0 || s.added == len(s.blocks) {
		return false
	}
	own := s.blocks[s.added]
	s.blocks[s.added] = s.total
	s.total += own
	s.added++
	return true
}

// tellValue tells the sum ahead of a value, and adds that value to it: by that
// it is the one ahead of the next.
func (s *Sums) tellValue(w *worker) bool {
	if w.at == w.to {
		return s.take(w)
	}
	s.ahead[w.at] = s.blocks[w.block]
	s.blocks[w.block] += s.values[w.at]
	w.at++
	return true
}
