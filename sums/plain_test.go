package sums_test

import (
	"fmt"
	"math"
	"math/big"
	"math/rand"
	"slices"
	"testing"

	"ballast/sums"
)

func same[T comparable](t *testing.T, what string, got, want T) {
	t.Helper()
	if got != want {
		t.Errorf("%s: %v, want %v", what, got, want)
	}
}

func sameList[T comparable](t *testing.T, what string, got, want []T) {
	t.Helper()
	if !slices.Equal(got, want) {
		t.Errorf("%s: %v, want %v", what, short(got), short(want))
	}
}

// short keeps what a test says of long lists readable.
func short[T any](l []T) string {
	if len(l) > 40 {
		return fmt.Sprint(l[:20], " .. ", l[len(l)-20:], " of ", len(l))
	}
	return fmt.Sprint(l)
}

// exact is the sum of all, as numbers without an end, then taken modulo 2^64.
func exact(values ...int64) int64 {
	sum := new(big.Int)
	for _, value := range values {
		sum.Add(sum, big.NewInt(value))
	}
	word := new(big.Int).And(sum, new(big.Int).SetUint64(math.MaxUint64))
	return int64(word.Uint64())
}

// anyValues are so many words, small ones or any.
func anyValues(r *rand.Rand, n int) []int64 {
	values, small := make([]int64, n), r.Intn(2) == 0
	for i := range values {
		values[i] = int64(r.Uint64())
		if small {
			values[i] %= 10
		}
	}
	return values
}

// P12.1: none, one, several, and beyond both ends of int64.
func TestPlain(t *testing.T) {
	const most, least = math.MaxInt64, math.MinInt64
	for _, x := range []struct {
		values, ahead []int64
		sum           int64
	}{
		{nil, nil, 0},
		{[]int64{}, nil, 0},
		{[]int64{0}, []int64{0}, 0},
		{[]int64{7}, []int64{0}, 7},
		{[]int64{-7}, []int64{0}, -7},
		{[]int64{most}, []int64{0}, most},
		{[]int64{least}, []int64{0}, least},
		{[]int64{3, 1, 4}, []int64{0, 3, 4}, 8},
		{[]int64{5, -9, 0, 2, -1}, []int64{0, 5, -4, -4, -2}, -3},
		{[]int64{0, 0, 0}, []int64{0, 0, 0}, 0},
		{[]int64{most, 1}, []int64{0, most}, least},
		{[]int64{most, 1, 5}, []int64{0, most, least}, least + 5},
		{[]int64{least, -1}, []int64{0, least}, most},
		{[]int64{least, -1, -5, 9}, []int64{0, least, most, most - 5}, least + 3},
		{[]int64{most, most, most}, []int64{0, most, -2}, most - 2},
		{[]int64{least, least, least}, []int64{0, least, 0}, least},
	} {
		ahead, sum := sums.Plain(x.values...)
		sameList(t, fmt.Sprint("Plain ", x.values, ": ahead"), ahead, x.ahead)
		same(t, fmt.Sprint("Plain ", x.values, ": the sum"), sum, x.sum)
	}
}

// P12.1: each is the sum of all ahead of it, modulo 2^64.
func TestPlainOfAnyValues(t *testing.T) {
	for seed := range int64(60) {
		values := anyValues(rand.New(rand.NewSource(seed)), int(seed))
		ahead, sum := sums.Plain(values...)
		same(t, "how many", len(ahead), len(values))
		for i := range ahead {
			same(t, fmt.Sprint("seed ", seed, ": ahead of ", i), ahead[i], exact(values[:i]...))
		}
		same(t, fmt.Sprint("seed ", seed, ": the sum"), sum, exact(values...))
	}
}

// R5: Plain has no limit.
func TestPlainOfMany(t *testing.T) {
	for _, n := range []int{65535, 65536, 65537, 300000} {
		ahead, sum := sums.Plain(slices.Repeat([]int64{3}, n)...)
		same(t, fmt.Sprint(n, ": how many"), len(ahead), n)
		for i := range ahead {
			if ahead[i] != 3*int64(i) {
				t.Fatalf("%d: ahead of %d: %d", n, i, ahead[i])
			}
		}
		same(t, fmt.Sprint(n, ": the sum"), sum, 3*int64(n))
	}
}

// R3: values stay as they are; what Plain told shares nothing with them.
func TestPlainIsTheCallers(t *testing.T) {
	values := []int64{3, 1, 4, 1, 5}
	ahead, _ := sums.Plain(values...)
	sameList(t, "the values", values, []int64{3, 1, 4, 1, 5})
	values[0], values[4] = 99, 98
	sameList(t, "what was told", ahead, []int64{0, 3, 4, 8, 9})
	ahead[1], ahead[2] = -1, -2
	sameList(t, "the values", values, []int64{99, 1, 4, 1, 98})
	again, sum := sums.Plain(values...)
	sameList(t, "told again", again, []int64{0, 99, 100, 104, 105})
	same(t, "the sum", sum, 203)
}
