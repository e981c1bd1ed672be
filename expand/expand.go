// Package expand: turns the forms of a text into what can be evaluated, or finds them malformed.
package expand

import (
	"pupil/api"
	"pupil/datum"
	"pupil/eval"
	"pupil/meter"
	"pupil/verdict"
)

// Expander expands the forms of one text, one after the other.
type Expander struct {
	machine  *eval.Machine
	rewrites *meter.Meter
	macros   map[string][]rule // by symbol
	around   *scope
}

// New makes an Expander whose forms are evaluated by a machine, and which may rewrite as often as a meter lets it.
func New(m *eval.Machine, rewrites *meter.Meter) *Expander {
	return &Expander{m, rewrites, make(map[string][]rule), &scope{bound: make(map[identifier][]spot)}}
}

// mustHold ends the run if what a form needs does not hold.
func mustHold(holds bool) { verdict.Unless(holds, api.Malformed) }

// Form expands a form of the text itself.
func (x *Expander) Form(d datum.Datum) eval.Code {
	d = x.rewritten(d)
	switch x.keywordOf(d) {
	case "define":
		return x.define(d.Members)
	case "define-syntax":
		x.defineMacro(d.Members)
		return eval.Nothing
	}
	return x.expression(d)
}

// leading tells what a form begins with, and its symbol. What is no identifier is like a variable: it makes no keyword's form and no macro's use.
func (x *Expander) leading(d datum.Datum) (meaning, string) {
	if len(d.Members) == 0 || d.Members[0].Kind != datum.Symbol {
		return global, ""
	}
	name := identifierOf(d.Members[0])
	means, _ := x.meaningOf(name)
	return means, name.symbol
}

// keywordOf answers the keyword that a form begins with, if it is a keyword's form.
func (x *Expander) keywordOf(d datum.Datum) string {
	means, symbol := x.leading(d)
	if means != keyword {
		return ""
	}
	return symbol
}

// expression expands a form that is no definition.
func (x *Expander) expression(d datum.Datum) eval.Code {
	d = x.rewritten(d)
	switch d.Kind {
	case datum.Symbol:
		return x.variable(identifierOf(d))
	case datum.List:
		return x.list(d)
	}
	return x.machine.Datum(d)
}

func (x *Expander) expressions(data []datum.Datum) []eval.Code {
	codes := make([]eval.Code, len(data))
	for i, d := range data {
		codes[i] = x.expression(d)
	}
	return codes
}

func (x *Expander) variable(name identifier) eval.Code {
	means, address := x.meaningOf(name)
	mustHold(means == local || means == global)
	if means == local {
		return x.machine.Local(address)
	}
	return x.machine.Global(name.symbol)
}

func (x *Expander) list(d datum.Datum) eval.Code {
	members := d.Members
	mustHold(len(members) > 0)
	switch x.keywordOf(d) {
	case "":
		return x.machine.Application(x.expressions(members))
	case "quote":
		mustHold(len(members) == 2)
		return x.machine.Datum(members[1])
	case "if":
		return x.choice(members)
	case "set!":
		return x.assignment(members)
	case "lambda":
		mustHold(len(members) >= 3)
		return x.procedure(members[1], members[2:])
	case "let":
		return x.let(members)
	case "begin":
		mustHold(len(members) >= 2)
		return x.machine.Begin(x.expressions(members[1:]))
	}
	// A definition, which may stand as a form of the text alone.
	panic(verdict.Of(api.Malformed))
}
