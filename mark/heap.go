package mark

import (
	"ballast/api"
	"ballast/blocks"
	"ballast/cells"
	"ballast/classes"
)

// filler is the class that no list has.
const filler = 0

// reader is the heap as workers see it: they read it, and change nothing.
type reader interface {
	// object is the one that a ref leads to; false, if there is none. It is
	// one access, or none where there is no such cell.
	object(ref int64) (api.Block, bool)
	// places is where an object's references stand; no access.
	places(b api.Block) []int
	// ref is the reference that stands there; one access.
	ref(at int) int64
}

// memory is a heap of cells.
type memory struct {
	*cells.Cells
	classes []api.Class
}

// object loads the header, since who steps is not alone and what it looks at is
// to be counted; what the header means is for blocks to say. A ref may be more
// than an int holds.
func (h memory) object(ref int64) (api.Block, bool) {
	if ref < 0 || ref >= int64(h.Len()) {
		return api.Block{}, false
	}
	h.Load(int(ref))
	b, errno := blocks.Read(h.Cells, h.classes, int(ref))
	if errno != api.OK || b.Class == filler {
		return api.Block{}, false
	}
	return b, true
}

func (h memory) places(b api.Block) []int {
	l := classes.Refs(h.classes, b.Class, b.Len)
	for i := range l {
		l[i] += b.At
	}
	return l
}

func (h memory) ref(at int) int64 {
	w, _ := h.Load(at)
	return w
}
