package slide

import "ballast/plan"

// worker is one of those who copy.
type worker struct {
	next   func() // the step to come: one of the worker's own methods
	of     *Slider
	region int   // the one that it has, if it has one
	at, to int   // words of its Goal that are not stored yet
	source int   // the word that goes to the first of these
	word   int64 // what was read there
}

func newWorkers(s *Slider, workers int) []*worker {
	l := make([]*worker, workers)
	for number := range workers {
		w := &worker{of: s}
		w.next = w.take
		l[number] = w
	}
	return l
}

// take is the step of who has no region; it does nothing as long as none is
// ready.
func (w *worker) take() {
	region, ok := w.of.least()
	if !ok {
		return
	}
	w.region = region
	w.at, w.to = plan.Goal(w.of.plan, region)
	w.source = plan.Source(w.of.plan, w.of.bits, w.at)
	w.next = w.read
}

func (w *worker) read() {
	w.word, _ = w.of.heap.Load(w.source)
	w.next = w.store
}

// store is a step of its own: reading was an access already.
func (w *worker) store() {
	w.of.heap.Store(w.at, w.word)
	w.of.moves = append(w.of.moves, [2]int{w.source, w.at})
	w.at++
	if w.at == w.to {
		w.of.filled(w.region)
		w.next = w.take
		return
	}
	w.source = w.of.liveFrom(w.source + 1)
	w.next = w.read
}

// liveFrom is the first live word from a word on. All that lives keeps its
// order, so that behind a region's first source each one is next to the last:
// plan.Source would count all of them anew.
func (s *Slider) liveFrom(at int) int {
	if _, _, ok := s.bits.Over(at); ok {
		return at
	}
	return s.bits.Next(at, s.plan.To)
}
