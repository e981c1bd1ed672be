package expand

import (
	"pupil/datum"
	"pupil/eval"
)

func (x *Expander) choice(members []datum.Datum, around *scope) eval.Code {
	mustHold(len(members) == 3 || len(members) == 4)
	// Nothing stands in for a third part that is not there.
	parts := append(x.expressions(members[1:], around), eval.Nothing)
	return x.machine.If(parts[0], parts[1], parts[2])
}

func (x *Expander) assignment(members []datum.Datum, around *scope) eval.Code {
	mustHold(len(members) == 3)
	name := identifierOf(members[1])
	means, address := around.meaningOf(name)
	mustHold(means != keyword)
	code := x.expression(members[2], around)
	if means == local {
		return x.machine.SetLocal(address, code)
	}
	return x.machine.SetGlobal(name.symbol, code)
}

// procedure expands what stands behind lambda.
func (x *Expander) procedure(parameters datum.Datum, body []datum.Datum, around *scope) eval.Code {
	if parameters.Kind == datum.Symbol {
		inner := &scope{[]identifier{identifierOf(parameters)}, around}
		return x.machine.LambdaOfList(x.body(body, inner))
	}
	mustHold(parameters.Kind == datum.List)
	names := distinct(parameters.Members)
	return x.machine.Lambda(len(names), x.body(body, &scope{names, around}))
}

func (x *Expander) body(forms []datum.Datum, inner *scope) eval.Code {
	return eval.Sequence(x.expressions(forms, inner))
}

// let makes the application that a let stands for: the lambda comes first. It is not made of data, as lambda may mean a variable here.
func (x *Expander) let(members []datum.Datum, around *scope) eval.Code {
	mustHold(len(members) >= 3 && members[1].Kind == datum.List)
	var names, values []datum.Datum
	for _, binding := range members[1].Members {
		mustHold(len(binding.Members) == 2)
		names = append(names, binding.Members[0])
		values = append(values, binding.Members[1])
	}
	procedure := x.procedure(datum.OfList(names...), members[2:], around)
	return x.machine.Application(append([]eval.Code{procedure}, x.expressions(values, around)...))
}

// define expands a definition, of a variable or of a procedure.
func (x *Expander) define(members []datum.Datum) eval.Code {
	mustHold(len(members) >= 3)
	target := members[1]
	if target.Kind != datum.List {
		mustHold(len(members) == 3)
		name := defined(target)
		return x.machine.DefineGlobal(name, x.expression(members[2], nil))
	}
	mustHold(len(target.Members) > 0)
	name := defined(target.Members[0])
	parameters := datum.OfList(target.Members[1:]...)
	return x.machine.DefineGlobal(name, x.procedure(parameters, members[2:], nil))
}

// defined answers the symbol that a definition may define.
func defined(d datum.Datum) string {
	name := identifierOf(d)
	mustHold(!isKeyword(name.symbol))
	return name.symbol
}
