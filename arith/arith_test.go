package arith_test

import (
	"math/big"
	"testing"

	"sloth/api"
	"sloth/arith"
)

// TestAll: DOC.md: each operator with numbers at the ends of the range and around 0, against numbers as great as they are.
func TestAll(t *testing.T) {
	numbers := []int{api.MinInt, api.MinInt + 1, -3037000500, -2147483648, -7, -2, -1, 0, 1, 2, 3, 7, 2147483648, 3037000500, api.MaxInt - 1, api.MaxInt}
	for _, m := range numbers {
		for _, n := range numbers {
			for op, holds := range map[string]bool{"==": m == n, "/=": m != n, "<": m < n, "<=": m <= n, ">": m > n, ">=": m >= n} {
				if got, ok := arith.Compare(op, m, n); !ok || got != holds {
					t.Errorf("%d %s %d: %v, %v", m, op, n, got, ok)
				}
			}
			for _, op := range []string{"+", "-", "*", "/", "%"} {
				if holds, ok := arith.Compare(op, m, n); ok || holds {
					t.Errorf("%s compares", op)
				}
				want, ok := wide(op, m, n)
				if got, gotOK := arith.Sum(op, m, n); got != want || gotOK != ok {
					t.Errorf("%d %s %d: %d, %v, want %d, %v", m, op, n, got, gotOK, want, ok)
				}
			}
		}
	}
}

// wide is the same without a range, wrapped behind that.
func wide(op string, m, n int) (int, bool) {
	a, b, c := big.NewInt(int64(m)), big.NewInt(int64(n)), new(big.Int)
	switch {
	case op == "+":
		c.Add(a, b)
	case op == "-":
		c.Sub(a, b)
	case op == "*":
		c.Mul(a, b)
	case n == 0:
		return 0, false
	case op == "/":
		c.Quo(a, b)
	default:
		c.Rem(a, b)
	}
	all := new(big.Int).Lsh(big.NewInt(1), 63)
	c.Mod(c, all)
	if c.Bit(62) == 1 {
		c.Sub(c, all)
	}
	return int(c.Int64()), true
}
