package adjust

import (
	"ballast/api"
	"ballast/classes"
	"ballast/plan"
)

// worker is one of those who turn references.
type worker struct {
	next     func() int // the step to come: one of the worker's own methods; it tells whether the worker has ended
	of       *Adjuster
	from, to int   // words of its region in which blocks may begin that it has not come to
	places   []int // of references that it has still to read, of the block at which it is
	place    int   // of the reference that it read last
	ref      int64 // what is to be stored there
}

func newWorkers(a *Adjuster, workers int) map[int]*worker {
	l := make(map[int]*worker, workers)
	for number := range workers {
		w := &worker{of: a}
		w.next = w.choose
		l[number] = w
	}
	return l
}

// choose is the step of who is done with a block.
func (w *worker) choose() int {
	at := w.of.bits.Next(w.from, w.to)
	if at < 0 {
		return w.take()
	}
	return w.open(at)
}

func (w *worker) take() int {
	region, ok := w.of.share.Next()
	if !ok {
		return api.End
	}
	w.from, w.to = plan.Span(w.of.plan, region)
	return api.Go
}

// open reads a block's header. A word that is none, or says what may not be,
// says no references.
func (w *worker) open(at int) int {
	w.from = at + 1
	header, _ := w.of.heap.Load(at)
	class, length, _ := classes.Parts(header)
	w.places = w.of.placed(at, classes.Refs(w.of.classes, class, length))
	return w.goOn()
}

// placed is where a block's references stand, as far as they have cells.
func (a *Adjuster) placed(at int, refs []int) []int {
	var places []int
	for _, word := range refs {
		if at+word < a.heap.Len() {
			places = append(places, at+word)
		}
	}
	return places
}

// goOn turns to what is left of the block, or to the next one.
func (w *worker) goOn() int {
	w.next = w.choose
	if len(w.places) > 0 {
		w.next = w.read
	}
	return api.Go
}

func (w *worker) read() int {
	w.place, w.places = w.places[0], w.places[1:]
	ref, _ := w.of.heap.Load(w.place)
	to, ok := turned(w.of.bits, w.of.plan, ref)
	switch {
	case !ok:
		w.of.fault = api.ErrHeap
	case ref != 0:
		w.ref, w.next = to, w.store
		return api.Go
	}
	return w.goOn()
}

// store is a step of its own: reading was an access already. No other worker
// comes to that word in between, since the block's region is this one's alone.
func (w *worker) store() int {
	w.of.heap.Store(w.place, w.ref)
	return w.goOn()
}
