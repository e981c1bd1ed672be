package expand

import (
	"testing"

	"pupil/api"
	"pupil/datum"
	"pupil/eval"
	"pupil/meter"
	"pupil/value"
	"pupil/verdict"
)

func marked(symbol string, mark int) datum.Datum {
	d := datum.OfSymbol(symbol)
	d.Mark = mark
	return d
}

// given expands and evaluates a form, and answers what it gives, written, or the verdict that it ends in.
func given(form datum.Datum) (written string, ended int) {
	defer func() {
		if end, ok := recover().(verdict.Ending); ok {
			ended = end.Verdict
		}
	}()
	m := eval.New(100, 100)
	m.Define("x", value.Symbol("global"))
	return value.Start(m.Run(New(m, meter.New(0, api.NoRewrite)).Form(form)), 100), 0
}

func TestP8Marks(t *testing.T) {
	list, x, quote := datum.OfList, datum.OfSymbol("x"), datum.OfSymbol("quote")
	x1, x2 := marked("x", 1), marked("x", 2)
	lambda := func(parameter, body datum.Datum) datum.Datum { return list(datum.OfSymbol("lambda"), parameter, body) }
	one, two := datum.OfNumber(1), datum.OfNumber(2)
	for _, c := range []struct {
		what  string
		form  datum.Datum
		want  string
		ended int
	}{
		{"the same mark", list(lambda(list(x1), x1), one), "1", 0},
		{"another mark", list(lambda(list(x1), x), one), "global", 0},
		{"another mark", list(lambda(list(x), x1), one), "global", 0},
		{"another mark", list(lambda(list(x2), x1), one), "global", 0},
		{"the innermost with this mark", list(lambda(list(x1), list(lambda(list(x), x1), two)), one), "1", 0},
		{"the innermost with this mark", list(lambda(list(x1), list(lambda(list(x1), x1), two)), one), "2", 0},
		{"not twice the same", list(lambda(list(x, x1), x1), one, two), "2", 0},
		{"twice the same", list(lambda(list(x1, x1), x1), one, two), "", api.Malformed},
		{"a list of arguments", list(lambda(x1, x1), one), "(1)", 0},
		{"a list of arguments", list(lambda(x1, x), one), "global", 0},
		{"let", list(datum.OfSymbol("let"), list(list(x1, one), list(x, two)), x1), "1", 0},
		{"set!", list(lambda(list(x1), list(datum.OfSymbol("begin"), list(datum.OfSymbol("set!"), x, two), x1)), one), "1", 0},
		{"set!", list(lambda(list(x1), list(datum.OfSymbol("begin"), list(datum.OfSymbol("set!"), x1, two), x1)), one), "2", 0},
		{"a keyword by its symbol", list(marked("quote", 3), x), "x", 0},
		{"a keyword by its symbol", marked("quote", 3), "", api.Malformed},
		{"a keyword behind a variable with another mark", list(lambda(list(marked("quote", 3)), list(quote, x)), one), "x", 0},
		{"a variable with a keyword's symbol", list(lambda(list(marked("quote", 3)), marked("quote", 3)), one), "1", 0},
		{"a datum is without marks", list(quote, list(x1, list(x2))), "(x (x))", 0},
		{"an unbound variable", marked("y", 1), "", api.Unbound},
		{"a definition", list(marked("define", 1), marked("y", 2), one), "#<nothing>", 0},
		{"a keyword is defined", list(datum.OfSymbol("define"), marked("if", 2), one), "", api.Malformed},
	} {
		if got, ended := given(c.form); got != c.want || ended != c.ended {
			t.Errorf("P8: %s: %s, verdict %d, want %s, verdict %d", c.what, got, ended, c.want, c.ended)
		}
	}
}

// What a definition defines is the global variable of the symbol, whatever the mark.
func TestP9DefinitionsAreOfSymbols(t *testing.T) {
	m := eval.New(100, 100)
	x := New(m, meter.New(0, api.NoRewrite))
	m.Run(x.Form(datum.OfList(datum.OfSymbol("define"), marked("y", 1), datum.OfNumber(1))))
	if got := value.Start(m.Run(x.Form(datum.OfSymbol("y"))), 100); got != "1" {
		t.Errorf("P9: y is %s, want 1", got)
	}
}
