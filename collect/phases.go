package collect

import (
	"ballast/adjust"
	"ballast/api"
	"ballast/blocks"
	"ballast/mark"
	"ballast/plan"
	"ballast/slide"
)

// The phases. Behind the last one stands the end, whose number is how many
// there are.
const (
	marking = iota
	planning
	turning
	sliding
	ordering
	phases
)

// alone is the worker that does by itself what can't be shared.
const alone = 0

// machine is what workers step together in a phase; it tells api.End to who
// has ended there.
type machine interface {
	Step(worker int) int
}

// phaseSteps is what a worker's step does in each phase. Each of them tells
// api.End once the worker has nothing left to do there.
func (c *Collector) phaseSteps() [phases]func(worker int) int {
	return [phases]func(worker int) int{
		marking:  c.work,
		planning: c.makePlan,
		turning:  c.work,
		sliding:  c.work,
		ordering: c.putInOrder,
	}
}

func (c *Collector) work(worker int) int { return c.machine.Step(worker) }

// makePlan plans, unless marking has come to what can't be moved.
func (c *Collector) makePlan(worker int) int {
	if worker == alone && c.Fault() == api.OK {
		p, errno := plan.Make(c.bits, c.how.From, c.to, c.how.Region, c.how.Waste)
		c.plan, c.unplanned = p, errno != api.OK
	}
	return api.End
}

// putInOrder has the heap be read as blocks again, up to its new top. Fill is
// no access, so that the top's is the only one.
func (c *Collector) putInOrder(worker int) int {
	if worker == alone && c.planned() {
		for _, gap := range plan.Gaps(c.plan, c.bits) {
			blocks.Fill(c.heap, gap[0], gap[1])
		}
		c.heap.Store(c.topAt, int64(c.plan.Top))
	}
	return api.End
}

// arrive ends a worker's phase; by the last one the next phase begins.
func (c *Collector) arrive(worker int) {
	if last, _ := c.gang.Arrive(worker); last {
		c.machine = c.next()
	}
}

// next is the machine of the phase that begins, by the one that was stepped
// last. Without a plan it stays that of marking, all of whose workers have
// ended: with a fault no phase behind it does anything.
func (c *Collector) next() machine {
	if !c.planned() {
		return c.machine
	}
	switch c.machine.(type) {
	case *mark.Marker:
		a, _ := adjust.New(c.heap, c.classes, c.bits, c.plan, c.control, c.how.Workers)
		return a
	case *adjust.Adjuster:
		s, _ := slide.New(c.heap, c.bits, c.plan, c.how.Workers)
		return s
	}
	return c.machine
}
