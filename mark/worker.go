package mark

import (
	"ballast/api"
	"ballast/deque"
	"ballast/quiet"
)

// worker is one of those who mark.
type worker struct {
	next   func() // the step to come: one of the worker's own methods
	of     *Marker
	deques []*deque.Deque // all of them: its own, then those it steals from, in that order
	hands  []int64        // refs
	kept   []api.Block    // marked, but without room in the deque
	block  api.Block      // that is to be marked, or is being pushed
	places []int          // of references that it has still to read, of the object that it scans
	asked  int            // which of the deques it takes something out of
	op     *deque.Op
	item   int64 // what it took
	offer  *quiet.Offer
	seen   int
	ended  bool
}

func newWorker(m *Marker, deques []*deque.Deque) *worker {
	w := &worker{of: m, deques: deques}
	w.next = w.choose
	return w
}

func (w *worker) goes() bool { return !w.ended }

// choose is the step of who is done with what it did. What there is to do is
// asked in the step itself, since roots come behind New. Refs go first, so that
// others find work as soon as may be.
func (w *worker) choose() {
	switch {
	case len(w.hands) > 0:
		w.takeRef()
	case len(w.places) > 0:
		w.readRef()
	case len(w.kept) > 0:
		w.takeKept()
	default:
		w.ask(0)
		w.take()
	}
}

func (w *worker) takeRef() {
	ref := w.hands[0]
	w.hands = w.hands[1:]
	if ref == 0 {
		return
	}
	block, ok := w.of.heap.object(ref)
	if !ok {
		w.fault()
		return
	}
	w.block, w.next = block, w.mark
}

func (w *worker) fault() { w.of.fault = api.ErrHeap }

// mark is a step of its own. Of all who come to a block just one is the first:
// by that the block is pushed once, and scanned once.
func (w *worker) mark() {
	w.next = w.choose
	first, errno := w.of.bits.Mark(w.block.At, w.block.Size)
	if errno != api.OK {
		w.fault()
	}
	if first {
		w.op, w.next = w.deques[0].Push(int64(w.block.At)), w.push
	}
}

func (w *worker) push() {
	if !w.op.Step() {
		return
	}
	w.next = w.choose
	if _, errno := w.op.Value(); errno != api.OK {
		w.kept = append(w.kept, w.block)
	}
}

func (w *worker) readRef() {
	w.hands = append(w.hands, w.of.heap.ref(w.places[0]))
	w.places = w.places[1:]
	w.count()
}

// count counts the object once all of its references are read.
func (w *worker) count() {
	if len(w.places) == 0 {
		w.seen++
	}
}

func (w *worker) takeKept() {
	last := len(w.kept) - 1
	block := w.kept[last]
	w.kept = w.kept[:last]
	w.scan(block)
}

// scan begins with an object; one without references is scanned by that.
func (w *worker) scan(block api.Block) {
	w.places = w.of.heap.places(block)
	w.count()
}

// ask turns to one of the deques; where all have nothing the worker offers to
// end.
func (w *worker) ask(at int) {
	w.asked, w.next = at, w.take
	switch {
	case at == len(w.deques):
		w.offer, w.next = w.of.quiet.Offer(w.deques...), w.end
	case at == 0:
		w.op = w.deques[at].Pop()
	default:
		w.op = w.deques[at].Steal()
	}
}

// take goes on to the next deque only where this one was seen to be empty: who
// came late to an item asks for another one.
func (w *worker) take() {
	if !w.op.Step() {
		return
	}
	item, errno := w.op.Value()
	switch errno {
	case api.OK:
		w.item, w.next = item, w.open
	case api.ErrState:
		w.ask(w.asked)
	default:
		w.ask(w.asked + 1)
	}
}

// open reads a header again: deques have room for addresses alone.
func (w *worker) open() {
	w.next = w.choose
	block, ok := w.of.heap.object(w.item)
	if !ok {
		w.fault()
		return
	}
	w.scan(block)
}

func (w *worker) end() {
	switch w.offer.Step() {
	case api.Wait:
		w.next = w.choose
	case api.End:
		w.ended = true
	}
}
