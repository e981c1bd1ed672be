package primitive

import (
	"pupil/eval"
	"pupil/value"
)

func defineKinds(m *eval.Machine) {
	m.Define("null?", is[value.Empty]())
	m.Define("pair?", is[*value.Pair]())
	m.Define("integer?", is[value.Number]())
	m.Define("symbol?", is[value.Symbol]())
	m.Define("string?", is[value.String]())
	m.Define("boolean?", is[value.Boolean]())
	m.Define("procedure?", is[*value.Procedure]())
	m.Define("seal?", is[*value.Seal]())
}

// is makes the primitive that asks for a kind.
func is[T value.Value]() *value.Procedure {
	return one(func(v value.Value) value.Value {
		_, ok := v.(T)
		return value.Boolean(ok)
	})
}

func defineSameness(m *eval.Machine) {
	m.Define("not", one(func(v value.Value) value.Value { return value.Boolean(v == value.Boolean(false)) }))
	m.Define("eq?", two(func(a, b value.Value) value.Value { return value.Boolean(a == b) }))
	m.Define("equal?", two(func(a, b value.Value) value.Value { return value.Boolean(equal(m, a, b)) }))
}

// equal takes a step for each two pairs, even for a pair and itself.
func equal(m *eval.Machine, a, b value.Value) bool {
	for {
		p, isPair := a.(*value.Pair)
		q, arePairs := b.(*value.Pair)
		if !isPair || !arePairs {
			return a == b
		}
		m.Steps.Take(1)
		if !equal(m, p.First, q.First) {
			return false
		}
		a, b = p.Second, q.Second
	}
}
