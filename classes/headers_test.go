package classes_test

import (
	"math"
	"math/big"
	"math/rand"
	"testing"

	"ballast/classes"
)

const mark = int64(1) << 62

// said holds what Parts told.
type said struct {
	class, length int
	ok            bool
}

func parts(header int64) said {
	class, length, ok := classes.Parts(header)
	return said{class, length, ok}
}

// P3.3: headers, at the bounds of class and length, and beyond them.
func TestHeader(t *testing.T) {
	for _, k := range []struct {
		class, length int
		want          int64
	}{
		{0, 0, mark},
		{0, 5, mark + 5},
		{1, 2, mark + 1<<32 + 2},
		{2, 5, mark + 2<<32 + 5},
		{16, 1024, mark + 16<<32 + 1024},
		{0, 65535, mark + 65535},
		{0, 1<<31 - 1, mark + 1<<31 - 1},
		{0, 1 << 31, mark + 1<<31},
		{0, 1<<32 - 1, mark + 1<<32 - 1},
		{0, 1 << 32, mark},
		{0, 1<<32 + 1, mark + 1},
		{3, 1<<32 + 1, mark + 3<<32 + 1},
		{1<<24 - 1, 0, mark + (1<<24-1)<<32},
		{1 << 24, 0, mark},
		{1<<24 + 1, 7, mark + 1<<32 + 7},
		{1<<24 - 1, 1<<32 - 1, mark + 1<<56 - 1},
		{1 << 30, 0, mark},
		{1 << 32, 1 << 33, mark},
		{-1, 0, mark + (1<<24-1)<<32},
		{0, -1, mark + 1<<32 - 1},
		{-1, -1, mark + 1<<56 - 1},
		{-2, -5, mark + (1<<24-2)<<32 + 1<<32 - 5},
		{-1 << 24, -1 << 32, mark},
		{-1<<24 + 1, -1<<32 + 1, mark + 1<<32 + 1},
		{-1<<24 - 1, -1<<32 - 1, mark + 1<<56 - 1},
		{math.MaxInt, math.MaxInt, mark + 1<<56 - 1},
		{math.MinInt, math.MinInt, mark},
		{math.MinInt + 1, math.MinInt + 2, mark + 1<<32 + 2},
	} {
		if got := classes.Header(k.class, k.length); got != k.want {
			t.Errorf("Header(%d, %d): %#x, want %#x", k.class, k.length, got, k.want)
		}
	}
}

// modulo is n modulo 2^bits, by numbers without bounds.
func modulo(n int, bits uint) int64 {
	m := new(big.Int).Lsh(big.NewInt(1), bits)
	return m.Mod(big.NewInt(int64(n)), m).Int64()
}

// P3.3: any header is the sum that the promise says, and Parts tells the class
// and the length again, below their bounds.
func TestHeaderAndParts(t *testing.T) {
	r := rand.New(rand.NewSource(3))
	for range 20000 {
		class, length := int(r.Uint64())>>r.Intn(64), int(r.Uint64())>>r.Intn(64)
		c, n := modulo(class, 24), modulo(length, 32)
		h := classes.Header(class, length)
		if h != mark+c*(1<<32)+n {
			t.Fatalf("Header(%d, %d): %#x", class, length, h)
		}
		if got, want := parts(h), (said{int(c), int(n), true}); got != want {
			t.Fatalf("Parts of Header(%d, %d): %v, want %v", class, length, got, want)
		}
	}
}

// P3.3: Parts of headers at the bounds.
func TestParts(t *testing.T) {
	for _, k := range []said{
		{0, 0, true}, {2, 5, true}, {0, 1, true}, {1, 0, true}, {0, 65535, true}, {16, 1024, true},
		{0, 1 << 31, true}, {0, 1<<32 - 1, true}, {1 << 23, 0, true}, {1<<24 - 1, 0, true}, {1<<24 - 1, 1<<32 - 1, true},
	} {
		same(t, "Parts of a Header", parts(classes.Header(k.class, k.length)), k)
		same(t, "Parts of its number", parts(mark+int64(k.class)<<32+int64(k.length)), k)
	}
}

// P3.3: Parts of numbers that are no Header.
func TestPartsOfNoHeader(t *testing.T) {
	for _, n := range []int64{
		0, 1, 5, -1, -5, 1 << 32, 2<<32 + 5, 1<<56 - 1, 1 << 56, 1<<62 - 1, 1 << 61,
		mark + 1<<56, mark + 1<<60, mark + 1<<61, math.MaxInt64, math.MaxInt64 - 1,
		math.MinInt64, math.MinInt64 + 5, math.MinInt64 + mark, -mark, -mark - 1, -mark + 1, -mark + 2<<32 + 5,
	} {
		if got := parts(n); got != (said{}) {
			t.Errorf("Parts of %#x: %v, want 0, 0 and false", n, got)
		}
	}
}

// P3.3: each bit of a header counts: the lower 56 say another class or length,
// the upper 8 have to be as they are.
func TestPartsOfEachBit(t *testing.T) {
	for _, k := range []said{{0, 0, true}, {2, 5, true}, {1<<24 - 1, 1<<32 - 1, true}} {
		h := classes.Header(k.class, k.length)
		for bit := range 64 {
			want := said{}
			switch {
			case bit < 32:
				want = said{k.class, k.length ^ 1<<bit, true}
			case bit < 56:
				want = said{k.class ^ 1<<(bit-32), k.length, true}
			}
			if got := parts(h ^ 1<<bit); got != want {
				t.Errorf("Parts of Header(%d, %d), bit %d turned: %v, want %v", k.class, k.length, bit, got, want)
			}
		}
	}
}
