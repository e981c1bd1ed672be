// Package primitive: the procedures that are there from the beginning on.
package primitive

import (
	"pupil/api"
	"pupil/argument"
	"pupil/eval"
	"pupil/value"
	"pupil/verdict"
)

// Define makes all primitives global variables of a machine.
func Define(m *eval.Machine) {
	defineNumbers(m)
	defineKinds(m)
	defineSameness(m)
	definePairs(m)
	defineLists(m)
	defineTexts(m)
	defineOthers(m)
}

// one makes a primitive of one argument, whose kind is work's.
func one[A value.Value](work func(A) value.Value) *value.Procedure {
	return &value.Procedure{Apply: func(arguments []value.Value, use value.Use) value.Next {
		argument.MustBe(1, arguments)
		return use(work(argument.As[A](arguments[0])))
	}}
}

// two makes a primitive of two arguments, whose kinds are work's.
func two[A, B value.Value](work func(A, B) value.Value) *value.Procedure {
	return &value.Procedure{Apply: func(arguments []value.Value, use value.Use) value.Next {
		argument.MustBe(2, arguments)
		a := argument.As[A](arguments[0])
		b := argument.As[B](arguments[1])
		return use(work(a, b))
	}}
}

func defineOthers(m *eval.Machine) {
	m.Define("apply", apply(m))
	m.Define("call/cc", callWithContinuation(m))
	m.Define("dynamic-wind", dynamicWind(m))
	m.Define("error", one(func(v value.Value) value.Value {
		panic(verdict.Ending{Verdict: api.Raised, Value: value.Start(v, api.MaxText)})
	}))
	m.Define("seal", one(func(v value.Value) value.Value {
		m.Cells.Take(1)
		return &value.Seal{Open: func() value.Value { return v }}
	}))
}

// callWithContinuation hands out, as a procedure, what is to be done with its own value.
func callWithContinuation(m *eval.Machine) *value.Procedure {
	return &value.Procedure{Apply: func(arguments []value.Value, use value.Use) value.Next {
		argument.MustBe(1, arguments)
		procedure := argument.As[*value.Procedure](arguments[0])
		m.Cells.Take(1)
		return m.Apply(procedure, []value.Value{m.Continuation(use)}, use)
	}}
}

func dynamicWind(m *eval.Machine) *value.Procedure {
	return &value.Procedure{Apply: func(arguments []value.Value, use value.Use) value.Next {
		argument.MustBe(3, arguments)
		before := argument.As[*value.Procedure](arguments[0])
		during := argument.As[*value.Procedure](arguments[1])
		after := argument.As[*value.Procedure](arguments[2])
		return m.Wind(before, during, after, use)
	}}
}

// apply does not give a value itself: it hands on what is to be done with the procedure's.
func apply(m *eval.Machine) *value.Procedure {
	return &value.Procedure{Apply: func(arguments []value.Value, use value.Use) value.Next {
		argument.MustBe(2, arguments)
		procedure := argument.As[*value.Procedure](arguments[0])
		var members []value.Value
		eachMember(arguments[1], func(v value.Value) {
			m.Steps.Take(1)
			members = append(members, v)
		})
		return m.Apply(procedure, members, use)
	}}
}
