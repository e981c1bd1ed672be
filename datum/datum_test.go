package datum

import (
	"math"
	"strings"
	"testing"
)

func TestWrite(t *testing.T) {
	for _, c := range []struct {
		d    Datum
		want string
	}{
		{OfNumber(0), "0"},
		{OfNumber(-7), "-7"},
		{OfNumber(math.MaxInt64), "9223372036854775807"},
		{OfNumber(math.MinInt64), "-9223372036854775808"},
		{OfTruth(true), "#t"},
		{OfTruth(false), "#f"},
		{OfString(""), `""`},
		{OfString("a ; ( '"), `"a ; ( '"`},
		{OfSymbol("..."), "..."},
		{OfList(), "()"},
		{OfList(OfSymbol("a")), "(a)"},
		{OfList(OfList(), OfList(OfNumber(1), OfString("x")), OfTruth(true)), `(() (1 "x") #t)`},
	} {
		var out strings.Builder
		Write(&out, c.d)
		if out.String() != c.want {
			t.Errorf("P4: Write(%+v) wrote %q, want %q", c.d, out.String(), c.want)
		}
	}
}

func TestWriteGoesBehindWhatIsThere(t *testing.T) {
	var out strings.Builder
	Write(&out, OfNumber(1))
	Write(&out, OfSymbol("a"))
	if out.String() != "1a" {
		t.Errorf("P4: two data written are %q, want %q", out.String(), "1a")
	}
}
