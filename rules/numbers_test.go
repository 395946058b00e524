package rules

import (
	"testing"

	"ballast/api"
)

type number struct {
	name      string
	got, want int
}

func hold(t *testing.T, l []number) {
	t.Helper()
	for _, n := range l {
		if n.got != n.want {
			t.Errorf("%s: %d, want %d", n.name, n.got, n.want)
		}
	}
}

// The limits of the document's section Words.
func TestLimits(t *testing.T) {
	hold(t, []number{
		{"MaxWords", api.MaxWords, 65536}, {"MaxTasks", api.MaxTasks, 128},
		{"MaxClasses", api.MaxClasses, 16}, {"MaxFields", api.MaxFields, 64},
		{"MaxLen", api.MaxLen, 1024}, {"Registers", api.Registers, 8},
		{"MaxFuncs", api.MaxFuncs, 16}, {"MaxCode", api.MaxCode, 256},
		{"MaxGlobals", api.MaxGlobals, 16}, {"MaxDepth", api.MaxDepth, 16},
		{"MaxThreads", api.MaxThreads, 16}, {"Passed", api.Passed, 4},
	})
}

// The errors: their numbers, and how they are told.
func TestErrors(t *testing.T) {
	for _, k := range []struct {
		errno api.Errno
		want  int
		text  string
	}{
		{api.OK, 0, "ballast: error 0"},
		{api.ErrArg, 1, "ballast: error 1"},
		{api.ErrAddr, 10, "ballast: error 10"},
		{api.ErrSize, 11, "ballast: error 11"},
		{api.ErrClass, 12, "ballast: error 12"},
		{api.ErrHeap, 13, "ballast: error 13"},
		{api.ErrFull, 14, "ballast: error 14"},
		{api.ErrEmpty, 15, "ballast: error 15"},
		{api.ErrState, 16, "ballast: error 16"},
		{api.ErrTask, 17, "ballast: error 17"},
		{api.ErrForm, 18, "ballast: error 18"},
		{api.ErrCode, 19, "ballast: error 19"},
		{api.Errno(-1), -1, "ballast: error -1"},
	} {
		var told error = k.errno
		if int(k.errno) != k.want || told.Error() != k.text {
			t.Errorf("%d %q, want %d %q", int(k.errno), told.Error(), k.want, k.text)
		}
	}
}

// The other constants of api.
func TestConstants(t *testing.T) {
	hold(t, []number{
		{"Go", api.Go, 0}, {"Wait", api.Wait, 1}, {"End", api.End, 2},
		{"Runs", api.Runs, 1}, {"Parked", api.Parked, 2}, {"Held", api.Held, 3},
		{"TrapNone", api.TrapNone, 0}, {"TrapNull", api.TrapNull, 1},
		{"TrapIndex", api.TrapIndex, 2}, {"TrapClass", api.TrapClass, 3},
		{"TrapMonitor", api.TrapMonitor, 4}, {"TrapMemory", api.TrapMemory, 5},
		{"TrapStack", api.TrapStack, 6}, {"TrapThreads", api.TrapThreads, 7},
		{"Rejected", api.Rejected, 0}, {"Cut", api.Cut, 1},
		{"AllEnded", api.AllEnded, 2}, {"Deadlock", api.Deadlock, 3},
	})
}

// The instructions' numbers.
func TestOps(t *testing.T) {
	hold(t, []number{
		{"OpNop", api.OpNop, 0}, {"OpConst", api.OpConst, 1}, {"OpMove", api.OpMove, 2},
		{"OpAdd", api.OpAdd, 3}, {"OpSub", api.OpSub, 4}, {"OpLess", api.OpLess, 5},
		{"OpJump", api.OpJump, 6}, {"OpBranch", api.OpBranch, 7}, {"OpCopy", api.OpCopy, 8},
		{"OpNull", api.OpNull, 9}, {"OpIsNull", api.OpIsNull, 10}, {"OpSame", api.OpSame, 11},
		{"OpNew", api.OpNew, 12}, {"OpArray", api.OpArray, 13}, {"OpLen", api.OpLen, 14},
		{"OpGetRef", api.OpGetRef, 15}, {"OpPutRef", api.OpPutRef, 16},
		{"OpGetInt", api.OpGetInt, 17}, {"OpPutInt", api.OpPutInt, 18},
		{"OpLoadInt", api.OpLoadInt, 19}, {"OpStoreInt", api.OpStoreInt, 20},
		{"OpLoadRef", api.OpLoadRef, 21}, {"OpStoreRef", api.OpStoreRef, 22},
		{"OpSwapInt", api.OpSwapInt, 23}, {"OpAddInt", api.OpAddInt, 24},
		{"OpSwapRef", api.OpSwapRef, 25}, {"OpGlobalRef", api.OpGlobalRef, 26},
		{"OpSetRef", api.OpSetRef, 27}, {"OpGlobalInt", api.OpGlobalInt, 28},
		{"OpSetInt", api.OpSetInt, 29}, {"OpCall", api.OpCall, 30},
		{"OpReturn", api.OpReturn, 31}, {"OpSpawn", api.OpSpawn, 32},
		{"OpJoin", api.OpJoin, 33}, {"OpEnter", api.OpEnter, 34}, {"OpExit", api.OpExit, 35},
		{"OpWait", api.OpWait, 36}, {"OpNotify", api.OpNotify, 37},
		{"OpNotifyAll", api.OpNotifyAll, 38}, {"OpPrint", api.OpPrint, 39},
		{"OpHalt", api.OpHalt, 40}, {"Ops", api.Ops, 41},
	})
}
