package code_test

import (
	"fmt"
	"math"
	"math/rand"
	"strings"
	"testing"

	"ballast/api"
	"ballast/code"
)

// names are those of the Ops from 0 on, as P18.2 has them.
func names() []string {
	return strings.Fields("nop const move add sub less jump branch copy null isnull same " +
		"new array len getref putref getint putint loadint storeint loadref storeref " +
		"swapint addint swapref globalref setref globalint setint call return " +
		"spawn join enter exit wait notify notifyall print halt")
}

// P18.2: the name of each Op.
func TestName(t *testing.T) {
	same(t, "how many", len(names()), api.Ops)
	for op, name := range names() {
		same(t, fmt.Sprint("Name ", op), code.Name(op), name)
	}
}

// P18.2: names by api's own words.
func TestNameOfConstants(t *testing.T) {
	for name, op := range map[string]int{
		"nop": api.OpNop, "const": api.OpConst, "move": api.OpMove, "add": api.OpAdd, "sub": api.OpSub, "less": api.OpLess,
		"jump": api.OpJump, "branch": api.OpBranch, "copy": api.OpCopy, "null": api.OpNull, "isnull": api.OpIsNull,
		"same": api.OpSame, "new": api.OpNew, "array": api.OpArray, "len": api.OpLen, "getref": api.OpGetRef,
		"putref": api.OpPutRef, "getint": api.OpGetInt, "putint": api.OpPutInt, "loadint": api.OpLoadInt,
		"storeint": api.OpStoreInt, "loadref": api.OpLoadRef, "storeref": api.OpStoreRef, "swapint": api.OpSwapInt,
		"addint": api.OpAddInt, "swapref": api.OpSwapRef, "globalref": api.OpGlobalRef, "setref": api.OpSetRef,
		"globalint": api.OpGlobalInt, "setint": api.OpSetInt, "call": api.OpCall, "return": api.OpReturn,
		"spawn": api.OpSpawn, "join": api.OpJoin, "enter": api.OpEnter, "exit": api.OpExit, "wait": api.OpWait,
		"notify": api.OpNotify, "notifyall": api.OpNotifyAll, "print": api.OpPrint, "halt": api.OpHalt,
	} {
		same(t, fmt.Sprint("Name ", op), code.Name(op), name)
	}
}

// P18.2: an Op that has no name is told by its number.
func TestNameOfOthers(t *testing.T) {
	for op, want := range map[int]string{
		-1: "op-1", 41: "op41", 42: "op42", 99: "op99", 255: "op255", 256: "op256", -41: "op-41",
		math.MinInt: "op-9223372036854775808", math.MaxInt: "op9223372036854775807",
		1 << 32: "op4294967296", -1 << 32: "op-4294967296", math.MinInt + 5: "op-9223372036854775803",
	} {
		same(t, fmt.Sprint("Name ", op), code.Name(op), want)
	}
	for op := api.Ops; op < 3000; op++ {
		same(t, fmt.Sprint("Name ", op), code.Name(op), fmt.Sprintf("op%d", op))
		same(t, fmt.Sprint("Name ", -op), code.Name(-op), fmt.Sprintf("op%d", -op))
	}
}

// P18.2: the Op of each name, and of what is none.
func TestOp(t *testing.T) {
	for want, name := range names() {
		op, ok := code.Op(name)
		same(t, "Op "+name, op, want)
		same(t, "Op "+name+": ok", ok, true)
	}
	none := []string{
		"", " ", "\x00", "op", "op0", "op5", "op-1", "op40", "op41", "op255", "op 5", "Op5",
		"NOP", "Nop", "HALT", "Halt", "haLt", "GETREF", "getRef", "NotifyAll",
		"no", "nopp", " nop", "nop ", "nop\n", "nop const", "nop\x00", "hal", "halts", "constant", "notif", "notifyal",
		"get", "ref", "int", "swap", "globals", "0", "1", "40", "-1", "nöp", "ｎｏｐ", "\xff\xfe",
		strings.Repeat("nop", 1000), strings.Repeat("x", 1<<20), strings.Join(names(), ""), strings.Join(names(), " "),
	}
	for _, name := range names() {
		none = append(none, strings.ToUpper(name), strings.ToUpper(name[:1])+name[1:], name+" ", " "+name, name[:len(name)-1]+"\x00", name+"x", "op"+name)
	}
	for _, name := range none {
		if op, ok := code.Op(name); op != 0 || ok {
			t.Errorf("Op(%.40q): %d, %t, want 0, false", name, op, ok)
		}
	}
}

// P18.2: of what Name tells, Op tells the Op again, if it has a name.
func TestOpOfName(t *testing.T) {
	seen := map[string]int{}
	for op := -300; op < 300; op++ {
		name := code.Name(op)
		if other, ok := seen[name]; ok {
			t.Errorf("%d and %d are both %s", other, op, name)
		}
		seen[name] = op
		has := 0 <= op && op < api.Ops
		got, ok := code.Op(name)
		same(t, "Op "+name+": ok", ok, has)
		if has {
			same(t, "Op "+name, got, op)
		} else {
			same(t, "Op "+name, got, 0)
		}
	}
}

// P18.2: instructions as texts.
func TestShow(t *testing.T) {
	for _, k := range []struct {
		i    api.Instr
		want string
	}{
		{api.Instr{Op: 1, A: 2, N: -5}, "const 2 0 0 -5"},
		{api.Instr{}, "nop 0 0 0 0"},
		{api.Instr{Op: 40, A: 1, B: 2, C: 3, N: 4}, "halt 1 2 3 4"},
		{api.Instr{Op: 23, A: 7, B: 6, C: 5, N: 63}, "swapint 7 6 5 63"},
		{api.Instr{Op: 38, A: 255, B: 255, C: 255, N: 255}, "notifyall 255 255 255 255"},
		{api.Instr{Op: 41}, "op41 0 0 0 0"},
		{api.Instr{Op: 255, A: 10, B: 100, C: 1000, N: 10000}, "op255 10 100 1000 10000"},
		{api.Instr{Op: -1, A: -2, B: -3, C: -4, N: -5}, "op-1 -2 -3 -4 -5"},
		{api.Instr{Op: 3, A: -1, B: -10, C: -255, N: -1}, "add -1 -10 -255 -1"},
		{
			api.Instr{Op: math.MinInt, A: math.MaxInt, B: math.MinInt, C: math.MaxInt, N: math.MinInt64},
			"op-9223372036854775808 9223372036854775807 -9223372036854775808 9223372036854775807 -9223372036854775808",
		},
		{
			api.Instr{Op: math.MaxInt, A: math.MinInt, B: math.MaxInt, C: math.MinInt, N: math.MaxInt64},
			"op9223372036854775807 -9223372036854775808 9223372036854775807 -9223372036854775808 9223372036854775807",
		},
	} {
		same(t, fmt.Sprint("Show ", k.i), code.Show(k.i), k.want)
	}
}

// P18.2: Show of many: the Name, and the four numbers.
func TestShowOfMany(t *testing.T) {
	r := rand.New(rand.NewSource(3))
	number := func() int { return int(r.Uint64()) >> r.Intn(64) }
	for n := range 5000 {
		i := api.Instr{Op: n%60 - 5, A: number(), B: number(), C: number(), N: int64(number())}
		name := fmt.Sprintf("op%d", i.Op)
		if 0 <= i.Op && i.Op < len(names()) {
			name = names()[i.Op]
		}
		same(t, fmt.Sprint("Show ", i), code.Show(i), fmt.Sprintf("%s %d %d %d %d", name, i.A, i.B, i.C, i.N))
	}
}
