package read

import (
	"reflect"
	"slices"
	"strings"
	"testing"

	"pupil/api"
	"pupil/datum"
)

// The wanted data are spelled out here, so that reading is tested apart from writing.
func TestText(t *testing.T) {
	a, quote := datum.OfSymbol("a"), datum.OfSymbol("quote")
	for _, c := range []struct {
		text string
		want []datum.Datum
	}{
		{"", nil},
		{"a", []datum.Datum{a}},
		{"-007 - 1a", []datum.Datum{datum.OfNumber(-7), datum.OfSymbol("-"), datum.OfSymbol("1a")}},
		{"#t #f", []datum.Datum{datum.OfTruth(true), datum.OfTruth(false)}},
		{`"1" 1 "#t"`, []datum.Datum{datum.OfString("1"), datum.OfNumber(1), datum.OfString("#t")}},
		{"()", []datum.Datum{datum.OfList()}},
		{"'a", []datum.Datum{datum.OfList(quote, a)}},
		{"(quote a)", []datum.Datum{datum.OfList(quote, a)}},
		{"(a (a) 'a)", []datum.Datum{datum.OfList(a, datum.OfList(a), datum.OfList(quote, a))}},
	} {
		forms, stop := Text(c.text)
		var got []datum.Datum
		for _, form := range forms {
			got = append(got, form.Datum)
		}
		if stop != nil || !reflect.DeepEqual(got, c.want) {
			t.Errorf("P3: Text(%q) = %+v, %+v, want %+v", c.text, got, stop, c.want)
		}
	}
}

func TestPlaces(t *testing.T) {
	for _, c := range []struct {
		text string
		want []int
	}{
		{"", nil},
		{"a", []int{0}},
		{" \n;a b\n (c d)e", []int{8, 13}},
		{"'a \"b\"#t(c '(d))", []int{0, 3, 6, 8}},
		{"' ;x\n a -1", []int{0, 8}},
	} {
		forms, stop := Text(c.text)
		var got []int
		for _, form := range forms {
			got = append(got, form.Place)
		}
		if stop != nil || !slices.Equal(got, c.want) {
			t.Errorf("P6: the forms of %q begin at %v, want %v", c.text, got, c.want)
		}
	}
}

func TestTextStops(t *testing.T) {
	for _, c := range []struct {
		text string
		want Stop
	}{
		{strings.Repeat(" ", api.MaxText+1), Stop{api.ErrLong, 0}},
		{"a )", Stop{api.ErrSyntax, 2}},
		{"a (b", Stop{api.ErrEnd, 4}},
		{"a 9223372036854775808", Stop{api.ErrMany, 2}},
	} {
		forms, stop := Text(c.text)
		if forms != nil || stop == nil || *stop != c.want {
			t.Errorf("P3: Text(%.40q) = %+v, %+v, want %+v", c.text, forms, stop, c.want)
		}
	}
}
