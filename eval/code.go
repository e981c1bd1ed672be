package eval

import (
	"pupil/datum"
	"pupil/value"
)

// Code is an expression, ready to be evaluated: in a frame of variables, with what is to be done with its value.
type Code func(f *Frame, use value.Use) value.Next

// Nothing gives nothing, and takes no step.
func Nothing(_ *Frame, use value.Use) value.Next { return use(value.Nothing{}) }

// Sequence evaluates one or more expressions, and gives the last one's value. It takes no step itself.
func Sequence(codes []Code) Code {
	if len(codes) == 1 {
		return codes[0]
	}
	first, rest := codes[0], Sequence(codes[1:])
	return func(f *Frame, use value.Use) value.Next {
		return first(f, func(value.Value) value.Next { return rest(f, use) })
	}
}

// step puts a step ahead of an expression.
func (m *Machine) step(code Code) Code {
	return func(f *Frame, use value.Use) value.Next {
		m.Steps.Take(1)
		return code(f, use)
	}
}

// Begin is a Sequence with a step of its own.
func (m *Machine) Begin(codes []Code) Code { return m.step(Sequence(codes)) }

// Datum gives a datum's value, made anew each time.
func (m *Machine) Datum(d datum.Datum) Code {
	cells := datum.CountMembers(d)
	return m.step(func(_ *Frame, use value.Use) value.Next {
		m.Cells.Take(cells)
		return use(value.Of(d))
	})
}

// If evaluates then or otherwise.
func (m *Machine) If(test, then, otherwise Code) Code {
	return m.step(func(f *Frame, use value.Use) value.Next {
		return test(f, func(v value.Value) value.Next {
			if v == value.Boolean(false) {
				return otherwise(f, use)
			}
			return then(f, use)
		})
	})
}

// Local gives the value of a variable of a lambda.
func (m *Machine) Local(a Address) Code {
	return m.step(func(f *Frame, use value.Use) value.Next { return use(*f.variable(a)) })
}

// Global gives the value of a global variable.
func (m *Machine) Global(symbol string) Code {
	g := m.global(symbol)
	return m.step(func(_ *Frame, use value.Use) value.Next {
		g.mustBeDefined()
		return use(g.value)
	})
}

// SetLocal sets a variable of a lambda.
func (m *Machine) SetLocal(a Address, code Code) Code {
	return m.set(code, func(f *Frame, v value.Value) { *f.variable(a) = v })
}

// SetGlobal sets a global variable that is defined.
func (m *Machine) SetGlobal(symbol string, code Code) Code {
	g := m.global(symbol)
	return m.set(code, func(_ *Frame, v value.Value) {
		g.mustBeDefined()
		g.value = v
	})
}

// DefineGlobal defines a global variable, or sets it anew.
func (m *Machine) DefineGlobal(symbol string, code Code) Code {
	return m.set(code, func(_ *Frame, v value.Value) { m.Define(symbol, v) })
}

// set evaluates code, stores its value and gives nothing.
func (m *Machine) set(code Code, store func(f *Frame, v value.Value)) Code {
	return m.step(func(f *Frame, use value.Use) value.Next {
		return code(f, func(v value.Value) value.Next {
			store(f, v)
			return use(value.Nothing{})
		})
	})
}
