package expand

import (
	"slices"

	"pupil/datum"
	"pupil/eval"
)

// identifier is a symbol with its mark: the same symbol with another mark is another identifier.
type identifier struct {
	symbol string
	mark   int
}

// scope holds the variables that one lambda or let binds.
type scope struct {
	names []identifier
	outer *scope
}

type meaning int

const (
	local   meaning = iota // a variable of a lambda or let
	keyword                // by the symbol alone
	global                 // by the symbol alone
)

// meaningOf tells what an identifier means, and where its variable is if it is a local one.
func (s *scope) meaningOf(name identifier) (meaning, eval.Address) {
	for out := 0; s != nil; out++ {
		if at := slices.Index(s.names, name); at >= 0 {
			return local, eval.Address{Out: out, At: at}
		}
		s = s.outer
	}
	if isKeyword(name.symbol) {
		return keyword, eval.Address{}
	}
	return global, eval.Address{}
}

func isKeyword(symbol string) bool {
	switch symbol {
	case "quote", "if", "define", "set!", "lambda", "let", "begin", "define-syntax":
		return true
	}
	return false
}

// identifierOf takes d as an identifier; all else is malformed.
func identifierOf(d datum.Datum) identifier {
	mustHold(d.Kind == datum.Symbol)
	return identifier{d.Text, d.Mark}
}

// distinct takes data as identifiers, none of them twice.
func distinct(data []datum.Datum) []identifier {
	var names []identifier
	for _, d := range data {
		name := identifierOf(d)
		mustHold(!slices.Contains(names, name))
		names = append(names, name)
	}
	return names
}
