package expand

import (
	"pupil/api"
	"pupil/datum"
	"pupil/meter"
	"pupil/verdict"
)

// dots stand behind what is repeated, in patterns and templates.
const dots = "..."

func isSymbol(d datum.Datum, symbol string) bool { return d.Kind == datum.Symbol && d.Text == symbol }

// rule makes, of a form that its pattern matches, what its template says.
type rule struct {
	pattern  pattern
	template maker
}

// defineMacro takes the rules of a define-syntax; they hold from the next form on.
func (x *Expander) defineMacro(members []datum.Datum) {
	mustHold(len(members) == 3)
	symbol := x.defined(members[1])
	x.macros[symbol] = rulesOf(members[2])
}

func rulesOf(d datum.Datum) []rule {
	mustHold(len(d.Members) >= 2 && isSymbol(d.Members[0], "syntax-rules"))
	literals := literalsOf(d.Members[1])
	var rules []rule
	for _, r := range d.Members[2:] {
		mustHold(len(r.Members) == 2)
		p := patternOf(r.Members[0], literals)
		rules = append(rules, rule{p, templateOf(r.Members[1], p.blanks)})
	}
	return rules
}

func literalsOf(d datum.Datum) []string {
	mustHold(d.Kind == datum.List)
	var literals []string
	for _, member := range d.Members {
		literal := identifierOf(member).symbol
		mustHold(literal != dots)
		literals = append(literals, literal)
	}
	return literals
}

// rewritten rewrites a form for as long as it is a macro's use.
func (x *Expander) rewritten(d datum.Datum) datum.Datum {
	for {
		means, symbol := x.leading(d)
		if means != macro {
			return d
		}
		x.rewrites.Take(1)
		d = rewrite(d, x.macros[symbol], x.around, x.rewrites.Taken())
	}
}

// rewrite makes what the first rule that matches says.
func rewrite(d datum.Datum, rules []rule, around *scope, mark int) datum.Datum {
	for _, r := range rules {
		if found, ok := r.pattern.match(d, around); ok {
			parts := meter.New(api.MaxParts, api.Malformed)
			return r.template(nil, use{found, mark, parts})[0]
		}
	}
	panic(verdict.Of(api.Malformed))
}
