package primitive

import (
	"pupil/api"
	"pupil/eval"
	"pupil/value"
	"pupil/verdict"
)

func definePairs(m *eval.Machine) {
	m.Define("cons", two(func(a, b value.Value) value.Value {
		m.Cells.Take(1)
		return &value.Pair{First: a, Second: b}
	}))
	m.Define("car", one(func(p *value.Pair) value.Value { return p.First }))
	m.Define("cdr", one(func(p *value.Pair) value.Value { return p.Second }))
}

func defineLists(m *eval.Machine) {
	m.Define("list", &value.Procedure{Apply: func(arguments []value.Value, use value.Use) value.Next {
		m.Cells.Take(len(arguments))
		return use(value.List(arguments, value.Empty{}))
	}})
	m.Define("length", one(func(list value.Value) value.Value {
		var count value.Number
		eachMember(list, func(value.Value) {
			m.Steps.Take(1)
			count++
		})
		return count
	}))
	m.Define("append", two(func(list, rest value.Value) value.Value {
		var members []value.Value
		eachMember(list, func(v value.Value) {
			m.Steps.Take(1)
			m.Cells.Take(1)
			members = append(members, v)
		})
		return value.List(members, rest)
	}))
}

// eachMember goes through a list. That it is none is told only where that is found, behind all visits ahead of it.
func eachMember(list value.Value, visit func(value.Value)) {
	for {
		pair, ok := list.(*value.Pair)
		if !ok {
			break
		}
		visit(pair.First)
		list = pair.Second
	}
	verdict.Unless(list == value.Empty{}, api.Mistyped)
}
