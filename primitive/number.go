package primitive

import (
	"math"

	"pupil/api"
	"pupil/eval"
	"pupil/value"
	"pupil/verdict"
)

func defineNumbers(m *eval.Machine) {
	m.Define("+", two(add))
	m.Define("-", two(subtract))
	m.Define("*", two(multiply))
	m.Define("quotient", two(quotient))
	m.Define("remainder", two(remainder))
	m.Define("=", two(func(a, b value.Number) value.Value { return value.Boolean(a == b) }))
	m.Define("<", two(func(a, b value.Number) value.Value { return value.Boolean(a < b) }))
}

func mustFit(fits bool) { verdict.Unless(fits, api.Overflow) }

func add(a, b value.Number) value.Value {
	mustFit(b >= 0 && a <= math.MaxInt64-b || b < 0 && a >= math.MinInt64-b)
	return a + b
}

func subtract(a, b value.Number) value.Value {
	mustFit(b >= 0 && a >= math.MinInt64+b || b < 0 && a <= math.MaxInt64+b)
	return a - b
}

func multiply(a, b value.Number) value.Value {
	product := a * b
	// A division finds every product that went round, but of the least number by -1, whose quotient goes round too.
	mustFit(b == 0 || product/b == a && !(a == math.MinInt64 && b == -1))
	return product
}

func quotient(a, b value.Number) value.Value {
	mustFit(b != 0 && !(a == math.MinInt64 && b == -1))
	return a / b
}

// remainder of the least number by -1 is 0, though the quotient is too great: so Go has it too.
func remainder(a, b value.Number) value.Value {
	mustFit(b != 0)
	return a % b
}
