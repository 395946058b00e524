package code_test

import (
	"fmt"
	"math/rand"
	"strings"
	"testing"

	"ballast/api"
	"ballast/code"
)

// comesBack holds Read of Bytes to be the program.
func comesBack(t *testing.T, what string, p api.Program) string {
	t.Helper()
	s, errno := code.Bytes(p)
	if errno != api.OK {
		t.Fatalf("%s: Bytes: %d", what, errno)
	}
	isRead(t, what, s, p)
	return s
}

// P18.3: of many programs that have bytes Read of Bytes is the program, and no
// two of them that are unlike have the same bytes.
func TestReadOfBytes(t *testing.T) {
	said := map[string]api.Program{}
	for seed := range int64(30000) {
		p := drawn(rand.New(rand.NewSource(seed)))
		s := comesBack(t, fmt.Sprint("seed ", seed), p)
		if q, ok := said[s]; ok && !alike(p, q) {
			t.Errorf("%s says %v and %v", hex(s), p, q)
		}
		said[s] = p
	}
	if len(said) < 20000 {
		t.Errorf("%d unlike ones", len(said))
	}
}

// P18.3: nil and empty lists count as the same.
func TestNilAndEmptyLists(t *testing.T) {
	for n, p := range []api.Program{
		{}, {Classes: []api.Class{}}, {Funcs: [][]api.Instr{}}, {Classes: []api.Class{}, Funcs: [][]api.Instr{}},
	} {
		same(t, fmt.Sprint("the least, ", n), hex(comesBack(t, "the least", p)), hex(least))
		p.Refs, p.Ints = 3, 4
		same(t, fmt.Sprint("with globals, ", n), hex(comesBack(t, "with globals", p)), "47 4f 00 00 03 04")
	}
}

// P18.3: of many texts those that are read are written as the same bytes.
func TestBytesOfRead(t *testing.T) {
	read := 0
	for seed := range int64(30000) {
		r := rand.New(rand.NewSource(seed))
		s, _ := account(drawn(r))
		for range r.Intn(4) {
			s = changed(r, s)
		}
		if comesAgain(t, s) {
			read++
		}
	}
	if read < 5000 {
		t.Errorf("%d are read", read)
	}
}

// comesAgain holds Bytes of what is read to be the same bytes.
func comesAgain(t *testing.T, s string) bool {
	t.Helper()
	p, _, errno := code.Read(s)
	if errno != api.OK {
		return false
	}
	if again, errno := code.Bytes(p); again != s || errno != api.OK {
		t.Errorf("Bytes of Read(% x): %d % x", s, errno, again)
	}
	return true
}

// P18.3: all texts of six bytes that begin with the mark and have neither
// classes nor functions, and each byte of a longer one.
func TestBytesOfReadOfAll(t *testing.T) {
	for n := range 1 << 16 {
		if s := least[:4] + string([]byte{byte(n >> 8), byte(n)}); !comesAgain(t, s) {
			t.Errorf("%s is not read", hex(s))
		}
	}
	read := 0
	for at := range len(someBytes) {
		for n := range 256 {
			if comesAgain(t, someBytes[:at]+string([]byte{byte(n)})+someBytes[at+1:]) {
				read++
			}
		}
	}
	// the mark and what says how many there are may be but as they are
	same(t, "how many are read", read, (len(someBytes)-6)*256+6)
}

// P18.3: a program that is unlike in one number has other bytes.
func TestUnlikePrograms(t *testing.T) {
	for _, k := range all() {
		seen := map[string]int{}
		for n := range 256 {
			p := some()
			*k.of(&p) = n
			s := comesBack(t, k.name, p)
			if other, ok := seen[s]; ok {
				t.Errorf("%s: %d and %d have the same bytes", k.name, other, n)
			}
			seen[s] = n
		}
	}
	seen := map[string]int64{}
	for shift := range 64 {
		for _, n := range []int64{1 << shift, -1 << shift, 1<<shift + 3, 1<<shift - 1} {
			p := some()
			p.Funcs[1][0].N = n
			s := comesBack(t, "N", p)
			if other, ok := seen[s]; ok && other != n {
				t.Errorf("N: %d and %d have the same bytes", other, n)
			}
			seen[s] = n
		}
	}
}

// P18.3: programs whose parts stand otherwise are unlike: a class more for a
// function less, instructions in one function or in two, globals the other way
// round.
func TestUnlikeParts(t *testing.T) {
	halt := api.Instr{Op: api.OpHalt}
	l := []api.Program{
		{}, {Refs: 1}, {Ints: 1}, {Refs: 1, Ints: 1},
		{Classes: []api.Class{{}}}, {Classes: []api.Class{{}, {}}},
		{Classes: []api.Class{{Refs: 1}}}, {Classes: []api.Class{{Words: 1}}}, {Classes: []api.Class{{Array: 1}}},
		{Classes: []api.Class{{Refs: 1}, {}}}, {Classes: []api.Class{{}, {Refs: 1}}},
		{Funcs: [][]api.Instr{{{}}}}, {Funcs: [][]api.Instr{{halt}}}, {Funcs: [][]api.Instr{{halt, halt}}},
		{Funcs: [][]api.Instr{{halt}, {halt}}}, {Funcs: [][]api.Instr{{halt, halt}, {halt}}}, {Funcs: [][]api.Instr{{halt}, {halt, halt}}},
		{Funcs: [][]api.Instr{{{A: 1}}}}, {Funcs: [][]api.Instr{{{B: 1}}}}, {Funcs: [][]api.Instr{{{C: 1}}}}, {Funcs: [][]api.Instr{{{N: 1}}}},
		{Funcs: [][]api.Instr{{{N: 256}}}}, {Funcs: [][]api.Instr{{{N: -1}}}}, {Funcs: [][]api.Instr{{{N: 1 << 56}}}},
		{Funcs: [][]api.Instr{{halt, {}}}}, {Funcs: [][]api.Instr{{{}, halt}}},
		{Classes: []api.Class{{}}, Funcs: [][]api.Instr{{halt}}},
	}
	for i, p := range l {
		s := comesBack(t, fmt.Sprint(p), p)
		for j, q := range l {
			if same := comesBack(t, fmt.Sprint(q), q) == s; same != (i == j) {
				t.Errorf("%v and %v: the same bytes: %t", p, q, same)
			}
		}
	}
}

// P18.3: no program's bytes are the beginning of another's.
func TestNoBytesBeginOthers(t *testing.T) {
	l := texts()
	for _, s := range l {
		for _, o := range l {
			if s != o && strings.HasPrefix(o, s) {
				t.Errorf("%s begins %s", hex(s), hex(o))
			}
		}
	}
}
