package expand

import (
	"pupil/datum"
	"pupil/eval"
)

func (x *Expander) choice(members []datum.Datum) eval.Code {
	mustHold(len(members) == 3 || len(members) == 4)
	// Nothing stands in for a third part that is not there.
	parts := append(x.expressions(members[1:]), eval.Nothing)
	return x.machine.If(parts[0], parts[1], parts[2])
}

func (x *Expander) assignment(members []datum.Datum) eval.Code {
	mustHold(len(members) == 3)
	name := identifierOf(members[1])
	means, address := x.meaningOf(name)
	mustHold(means == local || means == global)
	code := x.expression(members[2])
	if means == local {
		return x.machine.SetLocal(address, code)
	}
	return x.machine.SetGlobal(name.symbol, code)
}

// procedure expands what stands behind lambda.
func (x *Expander) procedure(parameters datum.Datum, body []datum.Datum) eval.Code {
	if parameters.Kind == datum.Symbol {
		return x.machine.LambdaOfList(x.body(body, []identifier{identifierOf(parameters)}))
	}
	mustHold(parameters.Kind == datum.List)
	names := distinct(parameters.Members)
	return x.machine.Lambda(len(names), x.body(body, names))
}

// body expands the forms of a lambda that binds names.
func (x *Expander) body(forms []datum.Datum, names []identifier) eval.Code {
	x.around.enter(names)
	codes := x.expressions(forms)
	x.around.leave(names)
	return eval.Sequence(codes)
}

// let makes the application that a let stands for: the lambda comes first. It is not made of data, as lambda may mean a variable here.
func (x *Expander) let(members []datum.Datum) eval.Code {
	mustHold(len(members) >= 3 && members[1].Kind == datum.List)
	var names, values []datum.Datum
	for _, binding := range members[1].Members {
		mustHold(len(binding.Members) == 2)
		names = append(names, binding.Members[0])
		values = append(values, binding.Members[1])
	}
	procedure := x.procedure(datum.OfList(names...), members[2:])
	return x.machine.Application(append([]eval.Code{procedure}, x.expressions(values)...))
}

// define expands a definition, of a variable or of a procedure.
func (x *Expander) define(members []datum.Datum) eval.Code {
	mustHold(len(members) >= 3)
	target := members[1]
	if target.Kind != datum.List {
		mustHold(len(members) == 3)
		name := x.defined(target)
		return x.machine.DefineGlobal(name, x.expression(members[2]))
	}
	mustHold(len(target.Members) > 0)
	name := x.defined(target.Members[0])
	parameters := datum.OfList(target.Members[1:]...)
	return x.machine.DefineGlobal(name, x.procedure(parameters, members[2:]))
}

// defined answers the symbol that a definition defines. If it was a macro's, it is so no more, not even in what it is defined as.
func (x *Expander) defined(d datum.Datum) string {
	name := identifierOf(d)
	mustHold(!isKeyword(name.symbol))
	delete(x.macros, name.symbol)
	return name.symbol
}
