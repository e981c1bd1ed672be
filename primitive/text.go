package primitive

import (
	"strconv"

	"pupil/api"
	"pupil/eval"
	"pupil/value"
)

func defineTexts(m *eval.Machine) {
	m.Define("string-append", two(func(a, b value.String) value.Value {
		mustFit(len(a)+len(b) <= api.MaxText)
		return text(m, string(a+b))
	}))
	m.Define("string-length", one(func(s value.String) value.Value { return value.Number(len(s)) }))
	m.Define("number->string", one(func(n value.Number) value.Value {
		return text(m, strconv.FormatInt(int64(n), 10))
	}))
	m.Define("symbol->string", one(func(s value.Symbol) value.Value { return text(m, string(s)) }))
}

// text makes a string, which takes a cell.
func text(m *eval.Machine, s string) value.Value {
	m.Cells.Take(1)
	return value.String(s)
}
