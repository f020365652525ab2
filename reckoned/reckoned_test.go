package reckoned_test

import (
	"math"
	"math/big"
	"slices"
	"testing"

	"gossamer/reckoned"
)

type answer struct {
	n    int
	con  string
	told bool
}

func of(name string, a, b int) answer {
	n, con, told := reckoned.Of(name, a, b)
	return answer{n, con, told}
}

func check(t *testing.T, name string, a, b int, want answer) {
	t.Helper()
	if got := of(name, a, b); got != want {
		t.Errorf("%d %s %d: %v; want %v", a, name, b, got, want)
	}
}

// ends are numbers near to those at which something turns round, or is cut off.
func ends() []int {
	var l []int
	for _, n := range []int{math.MinInt, -1 << 32, -1 << 31, 0, 1 << 31, 1 << 32, 3037000500, 1 << 62, math.MaxInt} {
		for by := -3; by <= 3; by++ {
			l = append(l, n+by)
		}
	}
	slices.Sort(l)
	return slices.Compact(l)
}

// wrapped is x, modulo 2^64, from -2^63 on.
func wrapped(x *big.Int) int {
	half := new(big.Int).Lsh(big.NewInt(1), 63)
	whole := new(big.Int).Lsh(big.NewInt(1), 64)
	x = new(big.Int).Add(x, half)
	x.Mod(x, whole)
	return int(x.Sub(x, half).Int64())
}

func TestNumbers(t *testing.T) {
	for _, a := range ends() {
		for _, b := range ends() {
			x, y := big.NewInt(int64(a)), big.NewInt(int64(b))
			check(t, "+", a, b, answer{wrapped(new(big.Int).Add(x, y)), "", true})
			check(t, "-", a, b, answer{wrapped(new(big.Int).Sub(x, y)), "", true})
			check(t, "*", a, b, answer{wrapped(new(big.Int).Mul(x, y)), "", true})
			if b != 0 {
				check(t, "/", a, b, answer{wrapped(new(big.Int).Quo(x, y)), "", true})
			}
		}
	}
	check(t, "/", math.MinInt, -1, answer{math.MinInt, "", true})
	check(t, "/", -7, 2, answer{-3, "", true})
}

func TestTruths(t *testing.T) {
	word := map[bool]string{true: "True", false: "False"}
	for _, a := range ends() {
		for _, b := range ends() {
			order := big.NewInt(int64(a)).Cmp(big.NewInt(int64(b)))
			check(t, "<", a, b, answer{0, word[order < 0], true})
			check(t, "==", a, b, answer{0, word[order == 0], true})
		}
	}
}

func TestDividedByNothing(t *testing.T) {
	for _, a := range ends() {
		check(t, "/", a, 0, answer{})
	}
}

func TestOtherNames(t *testing.T) {
	for _, name := range []string{"", "=", "===", "<=", "//", "+ ", " +", "++", "%", "->", "True", "plus", "\x00"} {
		for _, b := range []int{0, 3, math.MinInt} {
			check(t, name, 7, b, answer{0, "", true})
		}
	}
}
