package eval

import (
	"testing"

	"pupil/datum"
	"pupil/value"
)

func newMachine() *Machine {
	m := New(1000, 1000)
	m.Define("list", &value.Procedure{Apply: func(arguments []value.Value, use value.Use) value.Next {
		return use(value.List(arguments, value.Empty{}))
	}})
	return m
}

func number(m *Machine, n int64) Code { return m.Datum(datum.OfNumber(n)) }

// holding makes an expression that gives 1, and what makes one that gives the first one's use another number.
func holding(m *Machine) (hold Code, again func(int64) Code) {
	var held value.Use
	m.Define("hold", &value.Procedure{Apply: func(_ []value.Value, use value.Use) value.Next {
		held = use
		return use(value.Number(1))
	}})
	again = func(n int64) Code {
		return func(*Frame, value.Use) value.Next { return held(value.Number(n)) }
	}
	return m.Application([]Code{m.Global("hold")}), again
}

func wantGiven(t *testing.T, given value.Value, want string) {
	t.Helper()
	if got := value.Start(given, 100); got != want {
		t.Errorf("given %s, want %s", got, want)
	}
}

// A use that was handed out may be called again, when the form in which it was is long done.
func TestUsesCanBeCalledAgain(t *testing.T) {
	m := newMachine()
	hold, again := holding(m)
	form := m.Application([]Code{m.Global("list"), number(m, 0), hold, number(m, 2)})
	first := m.Run(form)
	second := m.Run(again(5))
	third := m.Run(again(7))
	wantGiven(t, second, "(0 5 2)")
	wantGiven(t, third, "(0 7 2)")
	wantGiven(t, first, "(0 1 2)")
}

// So may a use in a call of a lambda: each call behind it has variables of its own.
func TestVariablesOfCallsAgain(t *testing.T) {
	m := newMachine()
	hold, again := holding(m)
	getter := m.Lambda(0, m.Local(Address{Out: 1, At: 0}))
	setter := m.SetLocal(Address{Out: 0, At: 0}, m.Application([]Code{m.Global("list"), m.Local(Address{Out: 0, At: 0})}))
	maker := m.Lambda(1, Sequence([]Code{setter, getter}))
	first := m.Run(m.Application([]Code{maker, hold}))
	second := m.Run(again(2))
	call := func(procedure value.Value) value.Value {
		return m.Run(func(_ *Frame, use value.Use) value.Next { return m.Apply(procedure, nil, use) })
	}
	wantGiven(t, call(second), "(2)")
	wantGiven(t, call(first), "(1)")
}

func TestAddresses(t *testing.T) {
	m := newMachine()
	variables := []Code{m.Global("list"), m.Local(Address{0, 0}), m.Local(Address{0, 1}), m.Local(Address{1, 0}), m.Local(Address{2, 1})}
	inner := m.Application([]Code{m.Lambda(2, m.Application(variables)), number(m, 1), number(m, 2)})
	middle := m.Application([]Code{m.Lambda(1, inner), number(m, 3)})
	outer := m.Application([]Code{m.Lambda(2, middle), number(m, 4), number(m, 5)})
	wantGiven(t, m.Run(outer), "(1 2 3 5)")
}
