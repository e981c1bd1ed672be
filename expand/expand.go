// Package expand: turns the forms of a text into what can be evaluated, or finds them malformed.
package expand

import (
	"pupil/api"
	"pupil/datum"
	"pupil/eval"
	"pupil/verdict"
)

// Expander expands the forms of one text, one after the other.
type Expander struct{ machine *eval.Machine }

// New makes an Expander whose forms are evaluated by a machine.
func New(m *eval.Machine) *Expander { return &Expander{m} }

// mustHold ends the run if what a form needs does not hold.
func mustHold(ok bool) {
	if !ok {
		panic(verdict.Of(api.Malformed))
	}
}

// Form expands a form of the text itself.
func (x *Expander) Form(d datum.Datum) eval.Code {
	if leading(d, nil) == "define" {
		return x.define(d.Members)
	}
	return x.expression(d, nil)
}

// leading answers the keyword that a form begins with, if it is a keyword's form.
func leading(d datum.Datum, around *scope) string {
	if len(d.Members) == 0 || d.Members[0].Kind != datum.Symbol {
		return ""
	}
	name := identifierOf(d.Members[0])
	if means, _ := around.meaningOf(name); means != keyword {
		return ""
	}
	return name.symbol
}

// expression expands a form that is no definition.
func (x *Expander) expression(d datum.Datum, around *scope) eval.Code {
	switch d.Kind {
	case datum.Symbol:
		return x.variable(identifierOf(d), around)
	case datum.List:
		return x.list(d, around)
	}
	return x.machine.Datum(d)
}

func (x *Expander) expressions(data []datum.Datum, around *scope) []eval.Code {
	codes := make([]eval.Code, len(data))
	for i, d := range data {
		codes[i] = x.expression(d, around)
	}
	return codes
}

func (x *Expander) variable(name identifier, around *scope) eval.Code {
	means, address := around.meaningOf(name)
	mustHold(means != keyword)
	if means == local {
		return x.machine.Local(address)
	}
	return x.machine.Global(name.symbol)
}

func (x *Expander) list(d datum.Datum, around *scope) eval.Code {
	members := d.Members
	mustHold(len(members) > 0)
	switch leading(d, around) {
	case "":
		return x.machine.Application(x.expressions(members, around))
	case "quote":
		mustHold(len(members) == 2)
		return x.machine.Datum(members[1])
	case "if":
		return x.choice(members, around)
	case "set!":
		return x.assignment(members, around)
	case "lambda":
		mustHold(len(members) >= 3)
		return x.procedure(members[1], members[2:], around)
	case "let":
		return x.let(members, around)
	case "begin":
		mustHold(len(members) >= 2)
		return x.machine.Begin(x.expressions(members[1:], around))
	}
	// A definition, which may stand as a form of the text alone.
	panic(verdict.Of(api.Malformed))
}
