// Package arith: what operators make of numbers (DOC.md, 'What is built in').
package arith

// wrap keeps the lowest 63 bits, the highest of which is the sign.
func wrap(n int) int { return n << 1 >> 1 }

// Sum tells what + - * / % make of two numbers; false: they divide by 0.
func Sum(op string, a, b int) (int, bool) {
	switch op {
	case "+":
		return wrap(a + b), true
	case "-":
		return wrap(a - b), true
	case "*":
		return wrap(a * b), true
	}
	switch {
	case b == 0:
		return 0, false
	case op == "/":
		return wrap(a / b), true
	}
	return a % b, true
}

// Compare tells whether two numbers are as the operator says, and whether it is one that compares.
func Compare(op string, a, b int) (holds, ok bool) {
	switch op {
	case "==":
		return a == b, true
	case "/=":
		return a != b, true
	case "<":
		return a < b, true
	case "<=":
		return a <= b, true
	case ">":
		return a > b, true
	case ">=":
		return a >= b, true
	}
	return false, false
}
