// Package eval: what the expressions of a program are turned into (closures), and how they are run.
package eval

import (
	"pupil/api"
	"pupil/meter"
	"pupil/value"
	"pupil/verdict"
)

// Machine is what all expressions of one run share.
type Machine struct {
	Steps, Cells *meter.Meter
	globals      map[string]*global
	given        value.Value // what the form that is being run gave
	winders      *winder     // those in force
}

// global is a global variable; its value is nil until it is defined.
type global struct{ value value.Value }

func (g *global) mustBeDefined() { verdict.Unless(g.value != nil, api.Unbound) }

// New makes a Machine without global variables.
func New(fuel, quota int) *Machine {
	return &Machine{
		Steps:   meter.New(fuel, api.NoFuel),
		Cells:   meter.New(quota, api.NoCells),
		globals: make(map[string]*global),
	}
}

// Define defines a global variable, or sets it anew.
func (m *Machine) Define(symbol string, v value.Value) { m.global(symbol).value = v }

// global finds a variable, whether it is defined yet or not.
func (m *Machine) global(symbol string) *global {
	g := m.globals[symbol]
	if g == nil {
		g = &global{}
		m.globals[symbol] = g
	}
	return g
}

// Run evaluates a form of the text, and answers its value.
func (m *Machine) Run(form Code) value.Value {
	// The value is kept in the machine, not in a variable of this call: what gives it may be the end of an earlier form.
	next := form(nil, func(v value.Value) value.Next {
		m.given = v
		return nil
	})
	for next != nil {
		next = next()
	}
	return m.given
}

// Apply applies a value to arguments, which the procedure may keep.
func (m *Machine) Apply(v value.Value, arguments []value.Value, use value.Use) value.Next {
	m.Steps.Take(1)
	procedure, ok := v.(*value.Procedure)
	verdict.Unless(ok, api.Mistyped)
	return func() value.Next { return procedure.Apply(arguments, use) }
}
