package code

import "ballast/api"

// reader cuts off what it reads. Each of its calls tells false, and cuts no
// more, as soon as what is left can't go on as it should.
type reader struct{ left string }

func (r *reader) cut(into ...*int) bool {
	for _, n := range into {
		if r.left == "" {
			return false
		}
		*n = int(r.left[0])
		r.left = r.left[1:]
	}
	return true
}

func (r *reader) program(p *api.Program) bool {
	return r.mark() && cutAll(r, 0, &p.Classes, r.class) &&
		cutAll(r, 0, &p.Funcs, r.function) &&
		r.cut(&p.Refs, &p.Ints)
}

// mark cuts off as much of the mark as stands there, so that a fault is where
// it ends.
func (r *reader) mark() bool {
	for i := range len(mark) {
		if r.left == "" || r.left[0] != mark[i] {
			return false
		}
		r.left = r.left[1:]
	}
	return true
}

// cutAll reads how many items there are, and each of them: they are so many more
// than the byte says.
func cutAll[T any](r *reader, more int, into *[]T, cut func(*T) bool) bool {
	said := 0
	if !r.cut(&said) {
		return false
	}
	for range said + more {
		var item T
		if !cut(&item) {
			return false
		}
		*into = append(*into, item)
	}
	return true
}

func (r *reader) class(c *api.Class) bool {
	return r.cut(&c.Refs, &c.Words, &c.Array)
}

func (r *reader) function(f *[]api.Instr) bool {
	return cutAll(r, 1, f, r.instr)
}

func (r *reader) instr(i *api.Instr) bool {
	return r.cut(&i.Op, &i.A, &i.B, &i.C) && r.number(&i.N)
}

// number reads what split has made.
func (r *reader) number(n *int64) bool {
	for range wide {
		low := 0
		if !r.cut(&low) {
			return false
		}
		*n = *n<<8 | int64(low)
	}
	return true
}
