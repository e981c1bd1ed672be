// Package datum: the data that a text is made of.
package datum

// Kind tells which of its fields a Datum uses.
type Kind int

const (
	Number Kind = iota
	Boolean
	String
	Symbol
	List
)

// Datum is a number, a boolean, a string, a symbol or a list of data.
type Datum struct {
	Kind    Kind
	Number  int64
	Truth   bool
	Text    string // of a symbol, or of a string without its quotes
	Mark    int    // of a symbol: 0 if it stands in the text
	Members []Datum
}

// OfNumber makes a number.
func OfNumber(n int64) Datum { return Datum{Kind: Number, Number: n} }

// OfTruth makes a boolean.
func OfTruth(truth bool) Datum { return Datum{Kind: Boolean, Truth: truth} }

// OfString makes a string; text is what stands between its quotes.
func OfString(text string) Datum { return Datum{Kind: String, Text: text} }

// OfSymbol makes a symbol.
func OfSymbol(name string) Datum { return Datum{Kind: Symbol, Text: name} }

// OfList makes a list.
func OfList(members ...Datum) Datum { return Datum{Kind: List, Members: members} }

// CountParts counts d itself and, if it is a list, the parts of its members.
func CountParts(d Datum) int { return 1 + CountMembers(d) }

// CountMembers counts the members of all lists in d: as many pairs has its value.
func CountMembers(d Datum) int {
	count := len(d.Members)
	for _, m := range d.Members {
		count += CountMembers(m)
	}
	return count
}
