// Package datum: the data that a text is made of, and how they are written.
package datum

import (
	"strconv"
	"strings"
)

// Kind tells which of its fields a Datum uses.
type Kind int

const (
	Number Kind = iota
	Boolean
	String
	Symbol
	List
)

// Datum is a number, a boolean, a string, a symbol or a list of data.
type Datum struct {
	Kind    Kind
	Number  int64
	Truth   bool
	Text    string // of a symbol, or of a string without its quotes
	Members []Datum
}

// OfNumber makes a number.
func OfNumber(n int64) Datum { return Datum{Kind: Number, Number: n} }

// OfTruth makes a boolean.
func OfTruth(truth bool) Datum { return Datum{Kind: Boolean, Truth: truth} }

// OfString makes a string; text is what stands between its quotes.
func OfString(text string) Datum { return Datum{Kind: String, Text: text} }

// OfSymbol makes a symbol.
func OfSymbol(name string) Datum { return Datum{Kind: Symbol, Text: name} }

// OfList makes a list.
func OfList(members ...Datum) Datum { return Datum{Kind: List, Members: members} }

// Write puts d behind what out holds, in the one way in which it is written.
func Write(out *strings.Builder, d Datum) {
	switch d.Kind {
	case Number:
		out.WriteString(strconv.FormatInt(d.Number, 10))
	case Boolean:
		writeTruth(out, d.Truth)
	case String:
		// No string holds a byte that would have to be escaped.
		out.WriteByte('"')
		out.WriteString(d.Text)
		out.WriteByte('"')
	case Symbol:
		out.WriteString(d.Text)
	case List:
		writeList(out, d.Members)
	}
}

func writeTruth(out *strings.Builder, truth bool) {
	if truth {
		out.WriteString("#t")
		return
	}
	out.WriteString("#f")
}

func writeList(out *strings.Builder, members []Datum) {
	out.WriteByte('(')
	for i, m := range members {
		if i > 0 {
			out.WriteByte(' ')
		}
		Write(out, m)
	}
	out.WriteByte(')')
}
