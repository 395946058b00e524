package code_test

import (
	"encoding/binary"
	"fmt"
	"math"
	"math/rand"
	"reflect"
	"slices"
	"testing"

	"ballast/api"
	"ballast/code"
)

func same[T comparable](t *testing.T, what string, got, want T) {
	t.Helper()
	if got != want {
		t.Errorf("%s: %v, want %v", what, got, want)
	}
}

// hex is a text's bytes, as the chapter's examples have them.
func hex(s string) string { return fmt.Sprintf("% x", s) }

// far are numbers at the ends, and near the bounds of a byte.
func far() []int {
	return []int{-1, 256, math.MinInt, math.MaxInt, -255, -256, 257, 512, math.MinInt + 255, math.MaxInt - 255, 1 << 32, -1 << 32, 1<<32 + 7}
}

// alike tells whether two programs are the same, nil and empty lists too.
func alike(p, q api.Program) bool {
	return slices.Equal(p.Classes, q.Classes) && p.Refs == q.Refs && p.Ints == q.Ints &&
		slices.EqualFunc(p.Funcs, q.Funcs, slices.Equal)
}

// none tells whether a program is the zero value.
func none(p api.Program) bool { return alike(p, api.Program{}) }

// numbers are a program's byte numbers and Ns in the order that the chapter's
// Words tell: an N is an int64, all others are ints.
func numbers(p api.Program) []any {
	l := []any{int('G'), int('O'), len(p.Classes)}
	for _, c := range p.Classes {
		l = append(l, c.Refs, c.Words, c.Array)
	}
	l = append(l, len(p.Funcs))
	for _, f := range p.Funcs {
		l = append(l, len(f)-1)
		for _, i := range f {
			l = append(l, i.Op, i.A, i.B, i.C, i.N)
		}
	}
	return append(l, p.Refs, p.Ints)
}

// account is what Bytes is to tell of a program.
func account(p api.Program) (string, api.Errno) {
	var l []byte
	for _, n := range numbers(p) {
		switch n := n.(type) {
		case int64:
			l = binary.BigEndian.AppendUint64(l, uint64(n))
		case int:
			if n != int(uint8(n)) {
				return "", api.ErrSize
			}
			l = append(l, uint8(n))
		}
	}
	return string(l), api.OK
}

// places goes over a text, and tells how many bytes a program that begins so
// has, as far as the text says that.
func places(s string) int {
	at := 2
	next := func(bytes int) int {
		n := 0
		if at < len(s) {
			n = int(s[at])
		}
		at += bytes
		return n
	}
	at += 3 * next(1)
	for funcs := next(1); funcs > 0; funcs-- {
		at += 12 * (next(1) + 1)
	}
	return at + 2
}

// fault is at how many bytes Read is to tell ErrForm; -1, if it is not.
func fault(s string) int {
	for i := range min(2, len(s)) {
		if s[i] != "GO"[i] {
			return i
		}
	}
	switch end := places(s); {
	case len(s) < end:
		return len(s)
	case len(s) > end:
		return end
	}
	return -1
}

// least is the least program's bytes: no classes, no functions, no globals.
const least = "GO\x00\x00\x00\x00"

// some has two classes, functions of one and of two instructions, and globals.
func some() api.Program {
	return api.Program{
		Classes: []api.Class{{Refs: 2, Words: 1}, {Array: 2}},
		Funcs: [][]api.Instr{
			{{Op: api.OpHalt}},
			{{Op: api.OpConst, A: 1, B: 2, C: 3, N: 0x0102030405060708}, {Op: api.OpReturn, A: 4, B: 5, C: 6, N: -2}},
		},
		Refs: 9, Ints: 8,
	}
}

// someBytes are those of some.
const someBytes = "GO" + "\x02" + "\x02\x01\x00" + "\x00\x00\x02" + "\x02" +
	"\x00" + "\x28\x00\x00\x00" + "\x00\x00\x00\x00\x00\x00\x00\x00" +
	"\x01" + "\x01\x01\x02\x03" + "\x01\x02\x03\x04\x05\x06\x07\x08" +
	"\x1f\x04\x05\x06" + "\xff\xff\xff\xff\xff\xff\xff\xfe" +
	"\x09\x08"

// deep is a copy of a program.
func deep(p api.Program) api.Program {
	p.Classes = slices.Clone(p.Classes)
	p.Funcs = slices.Clone(p.Funcs)
	for i := range p.Funcs {
		p.Funcs[i] = slices.Clone(p.Funcs[i])
	}
	return p
}

// full is a function of so many instructions, none like another.
func full(many int) []api.Instr {
	f := make([]api.Instr, many)
	for i := range f {
		f[i] = api.Instr{Op: i % 256, A: i / 2 % 256, B: 255 - i%256, C: i * 7 % 256, N: int64(i) << (i % 60)}
	}
	return f
}

// drawn is a program that has bytes, drawn by chance.
func drawn(r *rand.Rand) api.Program {
	number := func() int {
		return []int{r.Intn(256), r.Intn(3), 255}[r.Intn(3)]
	}
	p := api.Program{Refs: number(), Ints: number()}
	for range r.Intn(4) {
		p.Classes = append(p.Classes, api.Class{Refs: number(), Words: number(), Array: number()})
	}
	for range r.Intn(4) {
		f := make([]api.Instr, 1+r.Intn(4))
		for i := range f {
			f[i] = api.Instr{Op: number(), A: number(), B: number(), C: number(), N: int64(r.Uint64()) >> r.Intn(64)}
		}
		p.Funcs = append(p.Funcs, f)
	}
	return p
}

// isWritten holds what Bytes tells against the account.
func isWritten(t *testing.T, what string, p api.Program) string {
	t.Helper()
	ahead := deep(p)
	s, errno := code.Bytes(p)
	want, wrong := account(p)
	if s != want || errno != wrong {
		t.Errorf("%s: Bytes: %d %s, want %d %s", what, errno, hex(s), wrong, hex(want))
	}
	if !reflect.DeepEqual(p, ahead) {
		t.Errorf("%s: Bytes changed the program to %v", what, p)
	}
	return s
}

// isTooGreat holds Bytes to ErrSize.
func isTooGreat(t *testing.T, what string, p api.Program) {
	t.Helper()
	if s, errno := code.Bytes(p); s != "" || errno != api.ErrSize {
		t.Errorf("%s: Bytes: %d %s, want ErrSize", what, errno, hex(s))
	}
}

// isRead holds what Read tells of a program's bytes.
func isRead(t *testing.T, what, s string, want api.Program) {
	t.Helper()
	if p, at, errno := code.Read(s); errno != api.OK || at != 0 || !alike(p, want) {
		t.Errorf("%s: Read: %v, %d, %d, want %v", what, p, at, errno, want)
	}
}

// isNone holds Read to ErrForm at so many bytes.
func isNone(t *testing.T, what, s string, want int) {
	t.Helper()
	if p, at, errno := code.Read(s); errno != api.ErrForm || at != want || !none(p) {
		t.Errorf("%s: Read: %v, %d, %d, want ErrForm at %d", what, p, at, errno, want)
	}
}
