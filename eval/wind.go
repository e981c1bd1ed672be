package eval

import (
	"pupil/argument"
	"pupil/value"
)

// winder is what one dynamic-wind puts in force, on top of what was in force ahead of it: so the latest one stands for all. Each is told from the others by its address, and never changes.
type winder struct {
	before, after *value.Procedure
	outer         *winder
}

// isAmong tells whether w is one of the winders up to latest.
func (w *winder) isAmong(latest *winder) bool {
	for latest != w && latest != nil {
		latest = latest.outer
	}
	return latest == w
}

// Wind applies before, during and after, with a winder in force for during, whose value it gives.
func (m *Machine) Wind(before, during, after *value.Procedure, use value.Use) value.Next {
	return m.Apply(before, nil, func(value.Value) value.Next {
		outer := m.winders
		m.winders = &winder{before, after, outer}
		return m.Apply(during, nil, func(v value.Value) value.Next {
			m.winders = outer
			return m.Apply(after, nil, func(value.Value) value.Next { return use(v) })
		})
	})
}

// Continuation makes the procedure that goes on with use, with the winders in force that are so now.
func (m *Machine) Continuation(use value.Use) *value.Procedure {
	winders := m.winders
	return &value.Procedure{Apply: func(arguments []value.Value, _ value.Use) value.Next {
		argument.MustBe(1, arguments)
		return m.rewind(winders, func() value.Next { return use(arguments[0]) })
	}}
}

// rewind brings back the winders up to latest, one by one, and goes on with then. What is still to be done is looked for anew behind each: what it applies may leave for good, or come back to here later.
func (m *Machine) rewind(latest *winder, then value.Next) value.Next {
	if m.winders == latest {
		return then()
	}
	again := func(value.Value) value.Next { return m.rewind(latest, then) }
	if left := m.winders; !left.isAmong(latest) {
		m.winders = left.outer
		return m.Apply(left.after, nil, again)
	}
	entered := latest
	for entered.outer != m.winders {
		entered = entered.outer
	}
	return m.Apply(entered.before, nil, func(v value.Value) value.Next {
		m.winders = entered
		return again(v)
	})
}
