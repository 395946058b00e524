package code

import (
	"strconv"
	"strings"

	"ballast/api"
)

// names are those of the Ops from 0 on.
var names = [api.Ops]string{
	"nop", "const", "move", "add", "sub", "less", "jump", "branch", "copy", "null", "isnull", "same",
	"new", "array", "len", "getref", "putref", "getint", "putint", "loadint", "storeint", "loadref", "storeref",
	"swapint", "addint", "swapref", "globalref", "setref", "globalint", "setint", "call", "return",
	"spawn", "join", "enter", "exit", "wait", "notify", "notifyall", "print", "halt",
}

// Name is an Op's; one that has none is told by its number.
func Name(op int) string {
	if op < 0 || op >= len(names) {
		return "op" + strconv.Itoa(op)
	}
	return names[op]
}

// Op is the one of a name.
func Op(name string) (int, bool) {
	for op := range len(names) {
		if names[op] == name {
			return op, true
		}
	}
	return 0, false
}

// Show is an instruction as a text.
func Show(i api.Instr) string {
	words := []string{Name(i.Op)}
	for _, register := range []int{i.A, i.B, i.C} {
		words = append(words, strconv.Itoa(register))
	}
	return strings.Join(append(words, strconv.FormatInt(i.N, 10)), " ")
}
