package code_test

import (
	"fmt"
	"math/rand"
	"slices"
	"strings"
	"testing"

	"ballast/api"
	"ballast/code"
)

// P18.1: texts that are a program's bytes.
func TestRead(t *testing.T) {
	isRead(t, "the least", least, api.Program{})
	isRead(t, "some", someBytes, some())
	isRead(t, "halt", "GO\x00\x01\x00\x28"+strings.Repeat("\x00", 13), api.Program{Funcs: [][]api.Instr{{{Op: api.OpHalt}}}})
	isRead(t, "all 255", "GO\x00\x01\x00"+strings.Repeat("\xff", 14), api.Program{
		Funcs: [][]api.Instr{{{Op: 255, A: 255, B: 255, C: 255, N: -1}}}, Refs: 255, Ints: 255,
	})
	isRead(t, "the mark within", "GO\x01GOG\x00OG", api.Program{
		Classes: []api.Class{{Refs: 'G', Words: 'O', Array: 'G'}}, Refs: 'O', Ints: 'G',
	})
}

// texts are programs' bytes, of all parts.
func texts() []string {
	l := []string{least, someBytes, "GO\x01\x01\x02\x03\x00\x04\x05", "GO\x00\x01\x00" + strings.Repeat("G", 14)}
	for seed := range int64(50) {
		s, _ := account(drawn(rand.New(rand.NewSource(seed))))
		l = append(l, s)
	}
	return l
}

// P18.1: each beginning of a program's bytes ends too early, at its end.
func TestBeginnings(t *testing.T) {
	isNone(t, "the empty text", "", 0)
	isNone(t, "G", "G", 1)
	isNone(t, "GO", "GO", 2)
	for _, s := range texts() {
		for n := range len(s) {
			isNone(t, fmt.Sprint(n, " bytes of ", hex(s)), s[:n], n)
		}
		if _, _, errno := code.Read(s); errno != api.OK {
			t.Errorf("%s: Read: %d", hex(s), errno)
		}
	}
}

// P18.1: a wrong first or second byte, whatever stands behind it.
func TestWrongMark(t *testing.T) {
	for _, behind := range []string{"", "\x00", least[2:], someBytes[2:], "GO", strings.Repeat("\xff", 100)} {
		for n := range 256 {
			b := string([]byte{byte(n)})
			for _, second := range []string{"", "G", "O", "X", "\x00"} {
				if n != 'G' && (second != "" || behind == "") {
					isNone(t, fmt.Sprint("first byte ", n), b+second+behind, 0)
				}
			}
			if n != 'O' {
				isNone(t, fmt.Sprint("second byte ", n), "G"+b+behind, 1)
			}
		}
	}
	isNone(t, "small letters", "go"+least[2:], 0)
	isNone(t, "a small letter", "Go"+least[2:], 1)
	isNone(t, "the other way round", "OG"+least[2:], 0)
	isNone(t, "a blank ahead", " "+least, 0)
	isNone(t, "a mark of another kind", "\xef\xbb\xbf"+least, 0)
}

// P18.1: bytes are left behind the program: told is the first of these.
func TestBytesLeft(t *testing.T) {
	for _, s := range texts() {
		for _, behind := range []string{"\x00", "x", "\xff", "GO", least, s, strings.Repeat("\x00", 1000)} {
			isNone(t, fmt.Sprint(len(behind), " behind ", hex(s)), s+behind, len(s))
		}
	}
}

// P18.1: how many there are says where a program ends.
func TestHowManySays(t *testing.T) {
	zeros := strings.Repeat("\x00", 1<<20)
	for n := range 256 {
		b := string([]byte{byte(n)})
		isNone(t, fmt.Sprint(n, " classes"), "GO"+b+zeros, 2+1+3*n+1+2)
		isNone(t, fmt.Sprint(n, " functions"), "GO\x00"+b+zeros, 2+1+1+13*n+2)
		isNone(t, fmt.Sprint(n, " instructions, less one"), "GO\x00\x01"+b+zeros, 2+1+1+1+12*(n+1)+2)
		isNone(t, fmt.Sprint(n, " classes and no more"), "GO"+b, 3)
		isNone(t, fmt.Sprint(n, " functions and no more"), "GO\x00"+b, 4)
		isNone(t, fmt.Sprint(n, " instructions and no more"), "GO\x00\x01"+b, 5)
	}
	ones := strings.Repeat("\xff", 1<<20)
	isNone(t, "the most", "GO"+ones, 2+1+3*255+1+255*(1+12*256)+2)
}

// P18.1: all short texts of few letters, held against where their parts stand.
func TestReadOfAllShortTexts(t *testing.T) {
	letters := "\x00\x01\x02"
	var grow func(s string, n int)
	right, wrong := 0, 0
	grow = func(s string, n int) {
		if isFault(t, s) {
			wrong++
		} else {
			right++
		}
		if n == 0 || t.Failed() {
			return
		}
		for i := range len(letters) {
			grow(s+letters[i:i+1], n-1)
		}
	}
	grow("", 3)
	grow("G", 3)
	grow("GO", 9)
	grow("GO\x00\x01\x00\x28\x00\x00\x00"+strings.Repeat("\x00", 8), 4)
	if right < 200 || wrong < 20000 {
		t.Errorf("%d are read, %d are not", right, wrong)
	}
}

// isFault holds what Read tells of a text against where its parts stand.
func isFault(t *testing.T, s string) bool {
	t.Helper()
	p, at, errno := code.Read(s)
	want := fault(s)
	switch {
	case want >= 0 && (errno != api.ErrForm || at != want || !none(p)):
		t.Errorf("Read(% x): %v, %d, %d, want ErrForm at %d", s, p, at, errno, want)
	case want < 0 && (errno != api.OK || at != 0):
		t.Errorf("Read(% x): %d, %d, want OK", s, at, errno)
	}
	return want >= 0
}

// P18.1: many texts: programs' bytes of which some were changed.
func TestReadOfMany(t *testing.T) {
	right, wrong := 0, 0
	for seed := range int64(20000) {
		r := rand.New(rand.NewSource(seed))
		s, _ := account(drawn(r))
		for range r.Intn(3) {
			s = changed(r, s)
		}
		if isFault(t, s) {
			wrong++
		} else {
			right++
		}
	}
	if right < 3000 || wrong < 3000 {
		t.Errorf("%d are read, %d are not", right, wrong)
	}
}

// changed is a text with a byte more, less, or another one, or cut off.
func changed(r *rand.Rand, s string) string {
	at := r.Intn(len(s) + 1)
	b := string([]byte{byte(r.Intn(256))})
	if r.Intn(2) == 0 {
		b = string([]byte{byte(r.Intn(3))})
	}
	switch r.Intn(4) {
	case 0:
		return s[:at] + b + s[at:]
	case 1:
		return s[:at] + s[min(at+1, len(s)):]
	case 2:
		return s[:at] + b + s[min(at+1, len(s)):]
	}
	return s[:at]
}

// P18.1: the fault is at the first byte up to which the text can't be the
// beginning of any: what is ahead of it can go on to be a program's bytes, and
// whatever comes behind it can't mend it.
func TestFaultIsTheFirst(t *testing.T) {
	r := rand.New(rand.NewSource(1))
	for range 3000 {
		s, _ := account(drawn(r))
		s = changed(r, changed(r, s))
		_, at, errno := code.Read(s)
		if errno == api.OK {
			continue
		}
		if !goesOn(s[:at]) {
			t.Fatalf("Read(% x): at %d, and no program's bytes begin with what is ahead", s, at)
		}
		if at == len(s) {
			continue
		}
		for range 10 {
			behind := make([]byte, r.Intn(60))
			r.Read(behind)
			isNone(t, hex(s), s[:at+1]+string(behind), at)
		}
	}
}

// goesOn tells whether a text can go on to be a program's bytes, by zeros.
func goesOn(s string) bool {
	rest := ""
	if strings.HasPrefix("GO", s) {
		s = "GO"
	}
	for range 400000 {
		_, at, errno := code.Read(s + rest)
		if errno == api.OK {
			return true
		}
		if at != len(s)+len(rest) {
			return false
		}
		rest += strings.Repeat("\x00", max(1, places(s+rest)-at))
	}
	return false
}

// R3: what Read told is the caller's own, and none of its lists share anything.
func TestReadIsTheCallersOwn(t *testing.T) {
	for _, s := range append(texts(), someBytes) {
		p, _, _ := code.Read(s)
		want := deep(p)
		q, _, _ := code.Read(s)
		for i := range q.Classes {
			q.Classes[i] = api.Class{Refs: 99, Words: 99, Array: 99}
		}
		for i := range q.Funcs {
			for j := range q.Funcs[i] {
				q.Funcs[i][j] = api.Instr{Op: 99, A: 99, B: 99, C: 99, N: 99}
			}
			_ = append(q.Funcs[i], api.Instr{Op: 98})
		}
		_ = append(q.Classes, api.Class{Refs: 98})
		_ = append(q.Funcs, nil)
		if !alike(p, want) {
			t.Fatalf("%s: what was told changed to %v", hex(s), p)
		}
		isRead(t, "again", s, want)
	}
	p, _, _ := code.Read(someBytes)
	long := p.Funcs[0]
	for n := range 5 {
		long = append(long, api.Instr{Op: 90 + n})
	}
	same(t, "appended", len(long), 6)
	classes := append(slices.Clip(p.Classes[:1]), api.Class{Refs: 90})
	same(t, "classes", len(classes), 2)
	if !alike(p, some()) {
		t.Errorf("by an append a list came into another one: %v", p)
	}
}

// R3: each function's instructions are its own: what is added to one behind its
// end, as far as it has room, changes no other.
func TestFunctionsByThemselves(t *testing.T) {
	want := api.Program{Funcs: [][]api.Instr{full(3), full(1), full(5), full(2), full(256), full(7)}}
	s, _ := account(want)
	p, _, _ := code.Read(s)
	for i := range p.Funcs {
		f := p.Funcs[i][:cap(p.Funcs[i])]
		for j := len(p.Funcs[i]); j < len(f); j++ {
			f[j] = api.Instr{Op: 99}
		}
	}
	if !alike(p, want) {
		t.Errorf("functions share their room: %v", p)
	}
}

// P1, R5: any text, however long.
func TestAnyText(t *testing.T) {
	r := rand.New(rand.NewSource(2))
	for range 3000 {
		b := make([]byte, r.Intn(200))
		r.Read(b)
		isFault(t, string(b))
		isFault(t, "GO"+string(b))
	}
	long := strings.Repeat("GO", 1<<22)
	isNone(t, "long", long, fault(long))
	isNone(t, "a long text of none", strings.Repeat("O", 1<<22), 0)
}
