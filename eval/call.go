package eval

import (
	"pupil/argument"
	"pupil/value"
)

// Frame holds the variables of one call of a lambda.
type Frame struct {
	variables []value.Value
	outer     *Frame
}

// Address says where a variable is: so many frames further out, and which one there.
type Address struct{ Out, At int }

func (f *Frame) variable(a Address) *value.Value {
	for range a.Out {
		f = f.outer
	}
	return &f.variables[a.At]
}

// Lambda gives a procedure of so many parameters.
func (m *Machine) Lambda(parameters int, body Code) Code {
	return m.lambda(body, func(arguments []value.Value) []value.Value {
		argument.MustBe(parameters, arguments)
		m.Cells.Take(parameters)
		return arguments
	})
}

// LambdaOfList gives a procedure whose one parameter is the list of its arguments.
func (m *Machine) LambdaOfList(body Code) Code {
	return m.lambda(body, func(arguments []value.Value) []value.Value {
		m.Cells.Take(1 + len(arguments))
		return []value.Value{value.List(arguments, value.Empty{})}
	})
}

// lambda gives a procedure; bind makes the variables of a call of its arguments.
func (m *Machine) lambda(body Code, bind func(arguments []value.Value) []value.Value) Code {
	return m.step(func(outer *Frame, use value.Use) value.Next {
		m.Cells.Take(1)
		return use(&value.Procedure{Apply: func(arguments []value.Value, use value.Use) value.Next {
			return body(&Frame{bind(arguments), outer}, use)
		}})
	})
}

// Application applies the first member's value to the others'.
func (m *Machine) Application(members []Code) Code {
	return m.step(func(f *Frame, use value.Use) value.Next {
		return m.gather(members, f, nil, func(values []value.Value) value.Next {
			return m.Apply(values[0], values[1:], use)
		})
	})
}

// gathered is a value behind those that were gathered ahead of it. It never changes: a continuation may come back to it.
type gathered struct {
	value  value.Value
	before *gathered
	count  int
}

// gather evaluates codes from the left to the right, behind those whose values are there already.
func (m *Machine) gather(codes []Code, f *Frame, done *gathered, use func([]value.Value) value.Next) value.Next {
	if len(codes) == 0 {
		return use(done.values())
	}
	return codes[0](f, func(v value.Value) value.Next {
		return m.gather(codes[1:], f, done.with(v), use)
	})
}

func (g *gathered) with(v value.Value) *gathered { return &gathered{v, g, g.size() + 1} }

func (g *gathered) size() int {
	if g == nil {
		return 0
	}
	return g.count
}

// values puts what was gathered into a new slice, in order.
func (g *gathered) values() []value.Value {
	values := make([]value.Value, g.size())
	for ; g != nil; g = g.before {
		values[g.count-1] = g.value
	}
	return values
}
