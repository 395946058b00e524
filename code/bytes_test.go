package code_test

import (
	"fmt"
	"math"
	"math/rand"
	"slices"
	"strings"
	"testing"

	"ballast/api"
	"ballast/code"
)

// P18.1: the chapter's example, the least program, and one that has all.
func TestBytes(t *testing.T) {
	zeros := strings.Repeat(" 00", 8)
	for _, k := range []struct {
		what string
		p    api.Program
		want string
	}{
		{"halt", api.Program{Funcs: [][]api.Instr{{{Op: api.OpHalt}}}}, "47 4f 00 01 00 28 00 00 00" + zeros + " 00 00"},
		{"the least", api.Program{}, "47 4f 00 00 00 00"},
		{"empty lists", api.Program{Classes: []api.Class{}, Funcs: [][]api.Instr{}}, "47 4f 00 00 00 00"},
		{"globals", api.Program{Refs: 1, Ints: 2}, "47 4f 00 00 01 02"},
		{"a class", api.Program{Classes: []api.Class{{Refs: 1, Words: 2, Array: 3}}}, "47 4f 01 01 02 03 00 00 00"},
		{"an instruction", api.Program{Funcs: [][]api.Instr{{{Op: 1, A: 2, B: 3, C: 4, N: 5}}}}, "47 4f 00 01 00 01 02 03 04 00 00 00 00 00 00 00 05 00 00"},
		{"some", some(), hex(someBytes)},
	} {
		s, errno := code.Bytes(k.p)
		same(t, k.what+": errno", errno, api.OK)
		same(t, k.what, hex(s), k.want)
		isRead(t, k.what, s, k.p)
		same(t, k.what+": the account", hex(isWritten(t, k.what, k.p)), k.want)
	}
}

// P18.1: no classes, and up to 255.
func TestHowManyClasses(t *testing.T) {
	class := api.Class{Refs: 1, Words: 2, Array: 1}
	for _, many := range []int{0, 1, 2, 16, 17, 128, 254, 255} {
		what := fmt.Sprint(many, " classes")
		p := api.Program{Classes: slices.Repeat([]api.Class{class}, many), Refs: 7}
		s := isWritten(t, what, p)
		same(t, what+": bytes", hex(s), hex("GO"+string([]byte{byte(many)})+strings.Repeat("\x01\x02\x01", many)+"\x00\x07\x00"))
		isRead(t, what, s, p)
	}
	for _, many := range []int{256, 257, 300, 512, 1 << 16, 1 << 20} {
		isTooGreat(t, fmt.Sprint(many, " classes"), api.Program{Classes: make([]api.Class, many)})
	}
}

// P18.1: no functions, and up to 255.
func TestHowManyFunctions(t *testing.T) {
	f := []api.Instr{{Op: api.OpPrint, A: 2}, {Op: api.OpHalt}}
	bytes := "\x01" + "\x27\x02\x00\x00" + strings.Repeat("\x00", 8) + "\x28\x00\x00\x00" + strings.Repeat("\x00", 8)
	for _, many := range []int{0, 1, 2, 16, 17, 128, 254, 255} {
		what := fmt.Sprint(many, " functions")
		p := api.Program{Funcs: slices.Repeat([][]api.Instr{f}, many), Ints: 7}
		s := isWritten(t, what, p)
		same(t, what+": bytes", hex(s), hex("GO\x00"+string([]byte{byte(many)})+strings.Repeat(bytes, many)+"\x00\x07"))
		isRead(t, what, s, p)
	}
	for _, many := range []int{256, 257, 300, 512, 1 << 16, 1 << 20} {
		isTooGreat(t, fmt.Sprint(many, " functions"), api.Program{Funcs: slices.Repeat([][]api.Instr{f}, many)})
	}
}

// P18.1: a function has from 1 to 256 instructions, wherever it stands.
func TestHowManyInstructions(t *testing.T) {
	one := []api.Instr{{Op: api.OpHalt}}
	for _, around := range [][2]int{{0, 0}, {1, 0}, {0, 1}, {2, 3}} {
		with := func(many int) (string, api.Program) {
			l := append(slices.Repeat([][]api.Instr{one}, around[0]), full(many))
			p := api.Program{Funcs: append(l, slices.Repeat([][]api.Instr{one}, around[1])...), Refs: 2, Ints: 3}
			return fmt.Sprint(many, " instructions among ", around), p
		}
		for _, many := range []int{1, 2, 3, 16, 128, 255, 256} {
			what, p := with(many)
			s := isWritten(t, what, p)
			same(t, what+": how many bytes", len(s), 4+13*(around[0]+around[1])+1+12*many+2)
			same(t, what+": the byte", int(s[4+13*around[0]]), many-1)
			isRead(t, what, s, p)
		}
		for _, many := range []int{0, 257, 258, 512, 1 << 16} {
			what, p := with(many)
			isTooGreat(t, what, p)
			p.Funcs[around[0]] = nil
			isTooGreat(t, what+", nil", p)
		}
	}
}

// The most that a program can have: 255 functions of 256 instructions.
func TestTheMost(t *testing.T) {
	p := api.Program{Refs: 255, Ints: 255}
	for n := range 255 {
		p.Classes = append(p.Classes, api.Class{Refs: n, Words: 255 - n, Array: n * n % 256})
		p.Funcs = append(p.Funcs, full(256))
	}
	s := isWritten(t, "the most", p)
	same(t, "how many bytes", len(s), 2+1+3*255+1+255*(1+12*256)+2)
	isRead(t, "the most", s, p)
	isNone(t, "a byte more", s+"\x00", len(s))
	isNone(t, "a byte less", s[:len(s)-1], len(s)-1)
}

// number is one of a program's that is to be a byte number, and where its byte
// stands.
type number struct {
	name string
	at   int
	of   func(p *api.Program) *int
}

// all are the byte numbers of some, beside how many there are.
func all() []number {
	l := []number{
		{"Refs", len(someBytes) - 2, func(p *api.Program) *int { return &p.Refs }},
		{"Ints", len(someBytes) - 1, func(p *api.Program) *int { return &p.Ints }},
	}
	for n := range 2 {
		class := func(p *api.Program) *api.Class { return &p.Classes[n] }
		l = append(l,
			number{fmt.Sprint("Refs of class ", n), 3 + 3*n, func(p *api.Program) *int { return &class(p).Refs }},
			number{fmt.Sprint("Words of class ", n), 4 + 3*n, func(p *api.Program) *int { return &class(p).Words }},
			number{fmt.Sprint("Array of class ", n), 5 + 3*n, func(p *api.Program) *int { return &class(p).Array }})
	}
	for n, at := range []int{11, 24, 36} {
		instr := func(p *api.Program) *api.Instr {
			if n == 0 {
				return &p.Funcs[0][0]
			}
			return &p.Funcs[1][n-1]
		}
		l = append(l,
			number{fmt.Sprint("Op of instruction ", n), at, func(p *api.Program) *int { return &instr(p).Op }},
			number{fmt.Sprint("A of instruction ", n), at + 1, func(p *api.Program) *int { return &instr(p).A }},
			number{fmt.Sprint("B of instruction ", n), at + 2, func(p *api.Program) *int { return &instr(p).B }},
			number{fmt.Sprint("C of instruction ", n), at + 3, func(p *api.Program) *int { return &instr(p).C }})
	}
	return l
}

// P18.1: each byte number has its own byte, and may be from 0 to 255.
func TestEachByteNumber(t *testing.T) {
	same(t, "how many", len(all()), 2+2*3+3*4)
	for _, k := range all() {
		for n := range 256 {
			p := some()
			*k.of(&p) = n
			want := []byte(someBytes)
			want[k.at] = byte(n)
			what := fmt.Sprint(k.name, " ", n)
			same(t, what, hex(isWritten(t, what, p)), hex(string(want)))
			isRead(t, what, string(want), p)
		}
		for _, n := range far() {
			p := some()
			*k.of(&p) = n
			isTooGreat(t, fmt.Sprint(k.name, " ", n), p)
		}
	}
}

// P18.1: two numbers that are none, and one in the last place of a long program.
func TestSomeNumbersAreNone(t *testing.T) {
	for _, k := range all() {
		for _, l := range all() {
			p := some()
			*k.of(&p), *l.of(&p) = -1, -1
			isTooGreat(t, k.name+" and "+l.name, p)
			*k.of(&p), *l.of(&p) = -1, 256
			isTooGreat(t, k.name+" and "+l.name, p)
		}
	}
	p := api.Program{Funcs: slices.Repeat([][]api.Instr{full(256)}, 255)}
	isWritten(t, "long", p)
	last := deep(p)
	last.Funcs[254][255].C = 256
	isTooGreat(t, "the last C", last)
	p.Ints = -1
	isTooGreat(t, "Ints", p)
}

// P18.1: N may be any, in eight bytes, the greatest first.
func TestN(t *testing.T) {
	for _, k := range []struct {
		n    int64
		want string
	}{
		{0, "00 00 00 00 00 00 00 00"},
		{1, "00 00 00 00 00 00 00 01"},
		{-1, "ff ff ff ff ff ff ff ff"},
		{-2, "ff ff ff ff ff ff ff fe"},
		{127, "00 00 00 00 00 00 00 7f"},
		{128, "00 00 00 00 00 00 00 80"},
		{255, "00 00 00 00 00 00 00 ff"},
		{256, "00 00 00 00 00 00 01 00"},
		{-128, "ff ff ff ff ff ff ff 80"},
		{-256, "ff ff ff ff ff ff ff 00"},
		{-257, "ff ff ff ff ff ff fe ff"},
		{math.MaxInt64, "7f ff ff ff ff ff ff ff"},
		{math.MinInt64, "80 00 00 00 00 00 00 00"},
		{math.MinInt64 + 1, "80 00 00 00 00 00 00 01"},
		{0x0123456789abcdef, "01 23 45 67 89 ab cd ef"},
	} {
		for at, s := range []int{15, 28, 40} {
			what := fmt.Sprint("N ", k.n, " at ", at)
			p := some()
			if at == 0 {
				p.Funcs[0][0].N = k.n
			} else {
				p.Funcs[1][at-1].N = k.n
			}
			told := isWritten(t, what, p)
			same(t, what, hex(told[s:s+8]), k.want)
			same(t, what+": ahead", hex(told[:s]), hex(someBytes[:s]))
			same(t, what+": behind", hex(told[s+8:]), hex(someBytes[s+8:]))
			isRead(t, what, told, p)
		}
	}
}

// P18.1: many programs, some of whose numbers are none.
func TestBytesOfMany(t *testing.T) {
	wrong, right := 0, 0
	for seed := range int64(20000) {
		r := rand.New(rand.NewSource(seed))
		p := drawn(r)
		if r.Intn(2) == 0 {
			spoil(r, &p)
		}
		isWritten(t, fmt.Sprint("seed ", seed), p)
		if _, errno := account(p); errno == api.OK {
			right++
		} else {
			wrong++
		}
	}
	if wrong < 3000 || right < 3000 {
		t.Errorf("%d have bytes, %d have none", right, wrong)
	}
}

// spoil sets some number of a program to one that is none, or takes away what a
// function has.
func spoil(r *rand.Rand, p *api.Program) {
	n := far()[r.Intn(len(far()))]
	switch r.Intn(3) {
	case 0:
		*[]*int{&p.Refs, &p.Ints}[r.Intn(2)] = n
	case 1:
		if len(p.Classes) > 0 {
			c := &p.Classes[r.Intn(len(p.Classes))]
			*[]*int{&c.Refs, &c.Words, &c.Array}[r.Intn(3)] = n
		}
	default:
		if len(p.Funcs) > 0 {
			f := p.Funcs[r.Intn(len(p.Funcs))]
			i := &f[r.Intn(len(f))]
			*[]*int{&i.Op, &i.A, &i.B, &i.C}[r.Intn(4)] = n
			if r.Intn(3) == 0 {
				p.Funcs[r.Intn(len(p.Funcs))] = [][]api.Instr{nil, {}, make([]api.Instr, 257)}[r.Intn(3)]
			}
		}
	}
}

// R3: a text that was told stays as it is, whatever becomes of the program.
func TestBytesStay(t *testing.T) {
	p := some()
	s, _ := code.Bytes(p)
	p.Classes[0] = api.Class{Refs: 77}
	p.Funcs[0][0].Op = 77
	p.Funcs[1] = nil
	p.Refs = 77
	same(t, "the text", hex(s), hex(someBytes))
}

// R4: the same calls have the same answers, whatever was called between.
func TestSameAgain(t *testing.T) {
	for range 3 {
		same(t, "Bytes", hex(isWritten(t, "some", some())), hex(someBytes))
		isTooGreat(t, "Refs", api.Program{Refs: 256})
		isRead(t, "some", someBytes, some())
		isNone(t, "GX", "GX", 1)
		isNone(t, "half of it", someBytes[:25], 25)
	}
}
