package code

import (
	"strings"

	"ballast/api"
)

// writer puts bytes behind one another. Each of its calls tells false, and does
// no more, if a number is no byte number.
type writer struct{ done strings.Builder }

func (w *writer) put(numbers ...int) bool {
	for _, n := range numbers {
		if n < 0 || n > mostByte {
			return false
		}
		w.done.WriteByte(byte(n))
	}
	return true
}

func (w *writer) program(p api.Program) bool {
	w.done.WriteString(mark)
	return w.put(len(p.Classes)) && putAll(p.Classes, w.class) &&
		w.put(len(p.Funcs)) && putAll(p.Funcs, w.function) &&
		w.put(p.Refs, p.Ints)
}

func putAll[T any](l []T, put func(T) bool) bool {
	for _, item := range l {
		if !put(item) {
			return false
		}
	}
	return true
}

func (w *writer) class(c api.Class) bool {
	return w.put(c.Refs, c.Words, c.Array)
}

// function puts one less than there are: so a byte holds up to 256, and none is
// no byte number.
func (w *writer) function(f []api.Instr) bool {
	return w.put(len(f)-1) && putAll(f, w.instr)
}

func (w *writer) instr(i api.Instr) bool {
	return w.put(i.Op, i.A, i.B, i.C) && w.put(split(i.N)...)
}

// split is a number's bytes, the greatest first.
func split(n int64) []int {
	l := make([]int, wide)
	for i := range wide {
		l[wide-1-i] = int(byte(n >> (8 * i)))
	}
	return l
}
