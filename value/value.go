// Package value: the values that a program works with, and how they are written.
package value

import "pupil/datum"

// Value is one of the types of this package. Two values are one and the same (eq?) if == holds: what has no identity is held as itself, all else by a pointer.
type Value interface{ isValue() }

type (
	Number  int64
	Boolean bool
	String  string
	Symbol  string
	Empty   struct{} // the empty list
	Nothing struct{}
)

// Pair never changes.
type Pair struct{ First, Second Value }

// Procedure is a lambda, a primitive or a continuation: only its maker knows which.
type Procedure struct {
	Apply func(arguments []Value, use Use) Next
}

// Seal hides a value; Open gives it, and takes what that costs.
type Seal struct{ Open func() Value }

// Grant is the right to one thing of the world; Kind is its number in package api.
type Grant struct{ Kind int }

// Use is what is to be done with a value.
type Use func(Value) Next

// Next is what is to be done next; nil if all is done. To hand it back, instead of calling it, keeps Go's stack flat however long a program runs.
type Next func() Next

func (Number) isValue()     {}
func (Boolean) isValue()    {}
func (String) isValue()     {}
func (Symbol) isValue()     {}
func (Empty) isValue()      {}
func (Nothing) isValue()    {}
func (*Pair) isValue()      {}
func (*Procedure) isValue() {}
func (*Seal) isValue()      {}
func (*Grant) isValue()     {}

// Of makes the value of a datum; its pairs are new.
func Of(d datum.Datum) Value {
	switch d.Kind {
	case datum.Number:
		return Number(d.Number)
	case datum.Boolean:
		return Boolean(d.Truth)
	case datum.String:
		return String(d.Text)
	case datum.Symbol:
		return Symbol(d.Text)
	}
	members := make([]Value, len(d.Members))
	for i, m := range d.Members {
		members[i] = Of(m)
	}
	return List(members, Empty{})
}

// List makes a list of members, with rest behind the last.
func List(members []Value, rest Value) Value {
	for i := len(members) - 1; i >= 0; i-- {
		rest = &Pair{members[i], rest}
	}
	return rest
}
