package value

import (
	"math"
	"strings"
	"testing"

	"pupil/datum"
)

func written(v Value) string {
	var out strings.Builder
	for b := range Written(v) {
		out.WriteByte(b)
	}
	return out.String()
}

func TestP4Data(t *testing.T) {
	list, a := datum.OfList, datum.OfSymbol("a")
	marked := a
	marked.Mark = 7
	for _, c := range []struct {
		d    datum.Datum
		want string
	}{
		{datum.OfNumber(0), "0"},
		{datum.OfNumber(-7), "-7"},
		{datum.OfNumber(math.MaxInt64), "9223372036854775807"},
		{datum.OfNumber(math.MinInt64), "-9223372036854775808"},
		{datum.OfTruth(true), "#t"},
		{datum.OfTruth(false), "#f"},
		{datum.OfString(""), `""`},
		{datum.OfString("a ; ( '"), `"a ; ( '"`},
		{datum.OfSymbol("..."), "..."},
		{marked, "a"},
		{list(), "()"},
		{list(a), "(a)"},
		{list(list(), list(datum.OfNumber(1), datum.OfString("x")), datum.OfTruth(true)), `(() (1 "x") #t)`},
	} {
		if got := written(Of(c.d)); got != c.want {
			t.Errorf("P4, P17: %+v is written %q, want %q", c.d, got, c.want)
		}
	}
}

func TestP17OtherValues(t *testing.T) {
	one, two := Number(1), Number(2)
	for _, c := range []struct {
		v    Value
		want string
	}{
		{Nothing{}, "#<nothing>"},
		{&Procedure{}, "#<procedure>"},
		{&Seal{}, "#<seal>"},
		{&Grant{}, "#<grant>"},
		{&Pair{one, two}, "(1 . 2)"},
		{&Pair{one, &Pair{two, Symbol("a")}}, "(1 2 . a)"},
		{&Pair{&Pair{one, two}, Empty{}}, "((1 . 2))"},
		{&Pair{Empty{}, Nothing{}}, "(() . #<nothing>)"},
		{List([]Value{&Seal{}, &Grant{}}, &Procedure{}), "(#<seal> #<grant> . #<procedure>)"},
	} {
		if got := written(c.v); got != c.want {
			t.Errorf("P17: written %q, want %q", got, c.want)
		}
	}
}

// doubled is a value of so many pairs, each twice in the next: it would be written in 2 to that many parts.
func doubled(times int) Value {
	var v Value = Symbol("a")
	for range times {
		v = &Pair{v, v}
	}
	return v
}

func TestP6StartOfAValue(t *testing.T) {
	v := List([]Value{Number(12), String("a")}, Number(3))
	whole := `(12 "a" . 3)`
	for most := range len(whole) + 3 {
		if got, want := Start(v, most), whole[:min(most, len(whole))]; got != want {
			t.Errorf("P6: the first %d bytes are %q, want %q", most, got, want)
		}
	}
	if got := Start(doubled(200), 190); got != strings.Repeat("(", 190) {
		t.Errorf("P6: a value that cannot be written whole begins %q", got)
	}
	if got, want := Start(doubled(3), 100), "(((a . a) a . a) (a . a) a . a)"; got != want {
		t.Errorf("P17: written %q, want %q", got, want)
	}
}

func TestP2PairsOfADatumAreNew(t *testing.T) {
	d := datum.OfList(datum.OfList(datum.OfNumber(1)))
	if Of(d) == Of(d) {
		t.Error("P13: the value of a datum is the same pair twice")
	}
}
