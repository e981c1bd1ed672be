package expand

import (
	"slices"

	"pupil/datum"
	"pupil/eval"
)

// identifier is a symbol with its mark: the same symbol with another mark is another identifier.
type identifier struct {
	symbol string
	mark   int
}

// scope holds the variables of the lambdas and lets around the form that is being expanded.
type scope struct {
	depth int                   // how many of them are around
	bound map[identifier][]spot // the innermost last
}

// spot is where a variable is: bound so deep, and which one there.
type spot struct{ depth, at int }

func (s *scope) enter(names []identifier) {
	s.depth++
	for at, name := range names {
		s.bound[name] = append(s.bound[name], spot{s.depth, at})
	}
}

func (s *scope) leave(names []identifier) {
	s.depth--
	for _, name := range names {
		spots := s.bound[name]
		s.bound[name] = spots[:len(spots)-1]
	}
}

// find tells where the innermost variable is that an identifier is bound to, if there is one.
func (s *scope) find(name identifier) (eval.Address, bool) {
	spots := s.bound[name]
	if len(spots) == 0 {
		return eval.Address{}, false
	}
	innermost := spots[len(spots)-1]
	return eval.Address{Out: s.depth - innermost.depth, At: innermost.at}, true
}

type meaning int

const (
	local   meaning = iota // a variable of a lambda or let
	keyword                // this and what follows: by the symbol alone
	macro
	global
)

// meaningOf tells what an identifier means, and where its variable is if it is a local one.
func (x *Expander) meaningOf(name identifier) (meaning, eval.Address) {
	address, bound := x.around.find(name)
	_, rewrites := x.macros[name.symbol]
	switch {
	case bound:
		return local, address
	case isKeyword(name.symbol):
		return keyword, address
	case rewrites:
		return macro, address
	}
	return global, address
}

func isKeyword(symbol string) bool {
	switch symbol {
	case "quote", "if", "define", "set!", "lambda", "let", "begin", "define-syntax":
		return true
	}
	return false
}

// identifierOf takes d as an identifier; all else is malformed.
func identifierOf(d datum.Datum) identifier {
	mustHold(d.Kind == datum.Symbol)
	return identifier{d.Text, d.Mark}
}

// distinct takes data as identifiers, none of them twice.
func distinct(data []datum.Datum) []identifier {
	var names []identifier
	for _, d := range data {
		name := identifierOf(d)
		mustHold(!slices.Contains(names, name))
		names = append(names, name)
	}
	return names
}
