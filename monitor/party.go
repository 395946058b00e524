package monitor

// monitor is one object's. In the queue nobody stands unless some one holds
// it.
type monitor struct {
	holder       party // thread 0: nobody
	queue, aside []party
}

// party is a thread, with how many times it has entered, or will have once it
// is let in.
type party struct{ thread, times int }

// forsaken tells whether nobody is left.
func (m *monitor) forsaken() bool {
	return m.holder.thread == 0 && len(m.queue) == 0 && len(m.aside) == 0
}

// enter has a thread hold it, or stand in its queue, and tells whether it
// holds it.
func (m *monitor) enter(thread int) bool {
	switch m.holder.thread {
	case 0:
		m.holder = party{thread, 1}
	case thread:
		m.holder.times++
	default:
		m.queue = join(m.queue, []party{{thread, 1}})
		return false
	}
	return true
}

// next has the first one of the queue hold it, and tells who it is; 0: nobody.
func (m *monitor) next() int {
	m.holder = party{}
	if len(m.queue) > 0 {
		first, rest := cut(m.queue, 1)
		m.holder, m.queue = first[0], rest
	}
	return m.holder.thread
}

// tell has the first n that stand aside stand in the queue, behind all others.
func (m *monitor) tell(n int) {
	told, rest := cut(m.aside, n)
	m.queue, m.aside = join(m.queue, told), rest
}

// cut parts a queue behind its first n. These end where the rest begins: who
// comes to stand behind them must not come to stand in the rest's place.
func cut(queue []party, n int) (first, rest []party) {
	return queue[:n:n], queue[n:]
}

// join has others stand behind a queue, where they are if they are alone.
func join(queue, others []party) []party {
	if len(queue) == 0 {
		return others
	}
	return append(queue, others...)
}

// threads is a queue's, in order.
func threads(queue []party) []int {
	l := make([]int, len(queue))
	for i, p := range queue {
		l[i] = p.thread
	}
	return l
}
