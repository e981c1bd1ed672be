package pupil

import (
	"strings"
	"testing"

	"pupil/api"
)

// primitives are those that ask for no grant, each with the kinds of its arguments.
func primitives() [][]string {
	var all [][]string
	for line := range strings.SplitSeq(`+ number number
- number number
* number number
quotient number number
remainder number number
= number number
< number number
cons any any
car pair
cdr pair
null? any
pair? any
integer? any
symbol? any
string? any
boolean? any
procedure? any
seal? any
not any
eq? any any
equal? any any
length list
append list any
string-append string string
string-length string
number->string number
symbol->string symbol
apply procedure list
error any
seal any`, "\n") {
		all = append(all, strings.Fields(line))
	}
	return all
}

// grantPrimitives are those that ask for a grant, which is named by its variable, ahead of other kinds.
func grantPrimitives() [][]string {
	return [][]string{{"write", "out", "any"}, {"read-line", "in"}, {"tick", "clock"}, {"roll", "dice", "number"}, {"unseal", "key", "seal"}}
}

// sample is an expression that gives a value of one kind.
type sample struct {
	text, kind   string
	steps, cells int
}

func samples() []sample {
	return []sample{
		{"1", "number", 1, 0}, {"#t", "boolean", 1, 0}, {`"s"`, "string", 1, 0}, {"'a", "symbol", 1, 0}, {"'()", "empty", 1, 0}, {"'(b)", "pair", 1, 1},
		{"list", "procedure", 1, 0}, {"(lambda x 1)", "procedure", 1, 1}, {"(seal 1)", "seal", 4, 1}, {"out", "grant", 1, 0}, {"(if #f 1)", "nothing", 2, 0},
	}
}

func (s sample) is(kind string) bool {
	return kind == "any" || kind == s.kind || kind == "list" && (s.kind == "empty" || s.kind == "pair")
}

// everyCall yields every choice of so many samples.
func everyCall(samples []sample, count int, chosen []sample, yield func([]sample)) {
	if len(chosen) == count {
		yield(chosen)
		return
	}
	for _, s := range samples {
		everyCall(samples, count, append(chosen[:len(chosen):len(chosen)], s), yield)
	}
}

// What is of the wrong kind is told behind the steps of the application, its members and the applying, ahead of all that the primitive takes.
func TestP14Kinds(t *testing.T) {
	for _, p := range primitives() {
		everyCall(samples(), len(p)-1, nil, func(arguments []sample) {
			text, right, want := "("+p[0], true, api.Report{Verdict: api.Mistyped, Steps: 3}
			for i, a := range arguments {
				text += " " + a.text
				right = right && a.is(p[i+1])
				want.Steps += a.steps
				want.Cells += a.cells
			}
			s := full(text + ")")
			s.Grants = api.Out
			if !right {
				wantReport(t, "P14", s, want)
			} else if r := New().Run(s); r.Verdict == api.Miscalled || r.Verdict == api.Mistyped {
				t.Errorf("P14: %s gives %+v", s.Text, r)
			}
		})
	}
}

func TestP14Miscalled(t *testing.T) {
	for _, p := range append(primitives(), grantPrimitives()...) {
		for count := range 5 {
			if count == len(p)-1 {
				continue
			}
			// Nothing is an argument of the wrong kind, and no grant: that they are too few or too many comes ahead of that.
			s := full("(define n (if #f 1)) (" + p[0] + strings.Repeat(" n", count) + ")")
			wantReport(t, "P14", s, api.Report{Verdict: api.Miscalled, Place: 21, Steps: 6 + count})
		}
	}
}

func TestP14PrimitivesAreVariables(t *testing.T) {
	for _, p := range append(append(primitives(), grantPrimitives()...), []string{"list"}) {
		wantValue(t, "P14", p[0], "#<procedure>")
		wantValue(t, "P14", "(eq? "+p[0]+" "+p[0]+")", "#t")
		wantValue(t, "P14", "(define "+p[0]+" 5) "+p[0], "5")
		wantValue(t, "P14", "(set! "+p[0]+" 5) "+p[0], "5")
		wantValue(t, "P14", "(let (("+p[0]+" 5)) "+p[0]+")", "5")
	}
	wantValue(t, "P14", "(define (f x) (car x)) (define car cdr) (f '(1 2))", "(2)")
}

const (
	greatest = "9223372036854775807"
	least    = "-9223372036854775808"
)

func TestP14Numbers(t *testing.T) {
	for _, c := range []struct{ text, want string }{
		{"(+ 1 2)", "3"}, {"(+ -1 -2)", "-3"}, {"(+ " + greatest + " 0)", greatest}, {"(+ " + greatest + " " + least + ")", "-1"}, {"(+ " + least + " 1)", "-9223372036854775807"},
		{"(+ 9223372036854775806 1)", greatest}, {"(+ -9223372036854775807 -1)", least}, {"(+ 4611686018427387904 4611686018427387903)", greatest},
		{"(- 1 2)", "-1"}, {"(- 5 0)", "5"}, {"(- " + least + " 0)", least}, {"(- -1 " + greatest + ")", least}, {"(- -1 " + least + ")", greatest}, {"(- " + least + " " + least + ")", "0"}, {"(- 0 " + greatest + ")", "-9223372036854775807"},
		{"(* 4 -5)", "-20"}, {"(* 0 " + least + ")", "0"}, {"(* " + least + " 0)", "0"}, {"(* " + least + " 1)", least}, {"(* 1 " + least + ")", least}, {"(* -1 " + greatest + ")", "-9223372036854775807"},
		{"(* 4611686018427387904 -2)", least}, {"(* -2 4611686018427387904)", least}, {"(* 3037000499 3037000499)", "9223372030926249001"}, {"(* -4294967296 2147483648)", least},
		{"(quotient 7 2)", "3"}, {"(quotient -7 2)", "-3"}, {"(quotient 7 -2)", "-3"}, {"(quotient -7 -2)", "3"}, {"(quotient 0 5)", "0"}, {"(quotient " + least + " 1)", least}, {"(quotient " + greatest + " -1)", "-9223372036854775807"},
		{"(remainder 7 2)", "1"}, {"(remainder -7 2)", "-1"}, {"(remainder 7 -2)", "1"}, {"(remainder -7 -2)", "-1"}, {"(remainder " + least + " -1)", "0"}, {"(remainder 6 3)", "0"},
		{"(= 1 1)", "#t"}, {"(= 1 2)", "#f"}, {"(= " + greatest + " " + least + ")", "#f"}, {"(= -0 0)", "#t"},
		{"(< 1 2)", "#t"}, {"(< 2 2)", "#f"}, {"(< 3 2)", "#f"}, {"(< " + least + " " + greatest + ")", "#t"}, {"(< " + greatest + " " + least + ")", "#f"},
	} {
		wantValue(t, "P14", c.text, c.want)
	}
	for _, text := range []string{
		"(+ " + greatest + " 1)", "(+ 1 " + greatest + ")", "(+ " + least + " -1)", "(+ -1 " + least + ")", "(+ " + least + " " + least + ")", "(+ 4611686018427387904 4611686018427387904)",
		"(- " + least + " 1)", "(- 0 " + least + ")", "(- " + greatest + " -1)", "(- -2 " + greatest + ")", "(- " + greatest + " " + least + ")",
		"(* " + least + " -1)", "(* -1 " + least + ")", "(* 4611686018427387904 2)", "(* 2 4611686018427387904)", "(* 3037000500 3037000500)", "(* -4294967296 -2147483648)", "(* 4294967296 4294967296)", "(* " + least + " " + least + ")", "(* " + least + " 2)",
		"(quotient 1 0)", "(quotient 0 0)", "(quotient " + least + " -1)", "(remainder 1 0)", "(remainder " + least + " 0)",
	} {
		wantReport(t, "P14", full(text), api.Report{Verdict: api.Overflow, Steps: 5})
	}
}

func TestP14PairsAndLists(t *testing.T) {
	for _, c := range []struct{ text, want string }{
		{"(cons 1 2)", "(1 . 2)"}, {"(cons 1 '(2))", "(1 2)"}, {"(cons '() '())", "(())"}, {"(cons 1 (cons 2 3))", "(1 2 . 3)"}, {"(cons (cons 1 2) 3)", "((1 . 2) . 3)"},
		{"(car '(1 2))", "1"}, {"(cdr '(1 2))", "(2)"}, {"(cdr '(1))", "()"}, {"(car (cons 1 2))", "1"}, {"(cdr (cons 1 2))", "2"}, {"(car '((1) 2))", "(1)"},
		{"(list)", "()"}, {"(list 1)", "(1)"}, {"(list 1 'a \"b\" '() (list))", `(1 a "b" () ())`},
		{"(length '())", "0"}, {"(length '(1 (2 3) 4))", "3"},
		{"(append '() '())", "()"}, {"(append '() 5)", "5"}, {"(append '(1) 5)", "(1 . 5)"}, {"(append '(1 2) '(3))", "(1 2 3)"}, {"(append '((1)) '())", "((1))"},
		{"(let ((x '(1))) (eq? (append '() x) x))", "#t"}, {"(let ((x '(1))) (eq? (append x '()) x))", "#f"}, {"(let ((x '(1))) (eq? (cdr (append '(1) x)) x))", "#t"},
		{"(apply + '(1 2))", "3"}, {"(apply list '())", "()"}, {"(apply list '(1 2 3))", "(1 2 3)"}, {"(apply apply (list list '(1 2)))", "(1 2)"}, {"(apply (lambda x x) '(1 2))", "(1 2)"},
		{"(apply (lambda (x y) (- x y)) '(5 3))", "2"}, {"(let ((x '(1))) (eq? (apply list x) x))", "#f"},
		{"(let ((x '(1 2))) (apply (lambda (y z) (set! y 5) (list x y z)) x))", "((1 2) 5 2)"},
	} {
		wantValue(t, "P14", c.text, c.want)
	}
	for _, c := range []struct {
		text    string
		verdict int
	}{
		{"(length (cons 1 2))", api.Mistyped}, {"(length '(1 . 2))", api.Done}, {"(append (cons 1 2) '())", api.Mistyped}, {"(apply list (cons 1 2))", api.Mistyped},
		{"(apply car '())", api.Miscalled}, {"(apply car '(1 2))", api.Miscalled}, {"(apply car '(1))", api.Mistyped}, {"(apply (lambda (x) x) '())", api.Miscalled}, {"(apply apply '(1 2))", api.Mistyped},
	} {
		if r := New().Run(full(c.text)); r.Verdict != c.verdict {
			t.Errorf("P14: %s gives %+v, want verdict %d", c.text, r, c.verdict)
		}
	}
}

// Each kind of value is asked by each of these primitives.
func TestP14Kind(t *testing.T) {
	asks := map[string]string{"null?": "empty", "pair?": "pair", "integer?": "number", "symbol?": "symbol", "string?": "string", "boolean?": "boolean", "procedure?": "procedure", "seal?": "seal"}
	for ask, kind := range asks {
		for _, s := range samples() {
			want := "#f"
			if s.kind == kind {
				want = "#t"
			}
			submission := full("(" + ask + " " + s.text + ")")
			submission.Grants = api.Out
			wantReport(t, "P14", submission, api.Report{Verdict: api.Done, Value: want, Steps: 3 + s.steps, Cells: s.cells})
		}
	}
	wantValue(t, "P14", "(list (boolean? #f) (procedure? car) (pair? (cons 1 2)) (not #f) (not #t) (not 0) (not '()) (not (if #f 1)))", "(#t #t #t #t #f #f #f #f)")
}

func TestP14Sameness(t *testing.T) {
	for _, c := range []struct{ a, b, eq, equal string }{
		{"1", "1", "#t", "#t"}, {"1", "2", "#f", "#f"}, {"1", "#t", "#f", "#f"}, {"1", `"1"`, "#f", "#f"}, {"#f", "#f", "#t", "#t"}, {"#f", "#t", "#f", "#f"}, {"#f", "'()", "#f", "#f"},
		{`"a"`, `"a"`, "#t", "#t"}, {`"a"`, `(string-append "" "a")`, "#t", "#t"}, {`"a"`, "'a", "#f", "#f"}, {`"a"`, `"b"`, "#f", "#f"}, {"'a", "'a", "#t", "#t"}, {"'a", "'b", "#f", "#f"},
		{"'()", "'()", "#t", "#t"}, {"'()", "(list)", "#t", "#t"}, {"'()", "(if #f 1)", "#f", "#f"}, {"(if #f 1)", "(if #f 1)", "#t", "#t"}, {"(set! x 1)", "(if #f 1)", "#t", "#t"}, {"(if #f 1)", "#f", "#f", "#f"},
		{"'(1)", "'(1)", "#f", "#t"}, {"p", "p", "#t", "#t"}, {"(cdr p)", "(cdr p)", "#t", "#t"}, {"p", "(list 1 '(2))", "#f", "#t"}, {"(quoted)", "(quoted)", "#f", "#t"}, {"p", "'()", "#f", "#f"}, {"p", "1", "#f", "#f"}, {"1", "p", "#f", "#f"},
		{"(cons 1 2)", "(cons 1 2)", "#f", "#t"}, {"(cons 1 2)", "'(1 2)", "#f", "#f"}, {"'(1 2)", "'(1 3)", "#f", "#f"}, {"'(1 2)", "'(1)", "#f", "#f"}, {"'((1) 2)", "'((2) 2)", "#f", "#f"}, {"'(1 (2 (3)))", "'(1 (2 (3)))", "#f", "#t"},
		{"car", "car", "#t", "#t"}, {"car", "cdr", "#f", "#f"}, {"(lambda () 1)", "(lambda () 1)", "#f", "#f"}, {"quoted", "quoted", "#t", "#t"}, {"(list quoted)", "(list quoted)", "#f", "#t"}, {"(maker)", "(maker)", "#f", "#f"},
		{"(seal 1)", "(seal 1)", "#f", "#f"}, {"s", "s", "#t", "#t"}, {"(list s)", "(list s)", "#f", "#t"}, {"s", "1", "#f", "#f"},
		{"out", "out", "#t", "#t"}, {"out", "in", "#f", "#f"}, {"out", "clock", "#f", "#f"},
	} {
		s := full("(define x 1) (define p '(1 (2))) (define s (seal 1)) (define (quoted) '(1)) (define (maker) (lambda () 1)) (list (eq? " + c.a + " " + c.b + ") (equal? " + c.a + " " + c.b + "))")
		s.Grants = api.Out | api.In
		if r := New().Run(s); r.Verdict != api.Done || r.Value != "("+c.eq+" "+c.equal+")" {
			t.Errorf("P14: eq? and equal? of %s and %s: %+v, want %s and %s", c.a, c.b, r, c.eq, c.equal)
		}
	}
}

func TestP14Texts(t *testing.T) {
	for _, c := range []struct{ text, want string }{
		{`(string-append "a" "bc")`, `"abc"`}, {`(string-append "" "")`, `""`}, {`(string-length "")`, "0"}, {`(string-length "a b")`, "3"},
		{"(number->string 0)", `"0"`}, {"(number->string -07)", `"-7"`}, {"(number->string " + least + ")", `"` + least + `"`}, {"(symbol->string 'ab)", `"ab"`}, {"(symbol->string '...)", `"..."`},
	} {
		wantValue(t, "P14", c.text, c.want)
	}
	half := `(define s "` + strings.Repeat("a", api.MaxText/2) + `") `
	wantReport(t, "P14", full(half+"(string-length (string-append s s))"), api.Report{Verdict: api.Done, Value: "1200", Steps: 10, Cells: 1})
	wantReport(t, "P14", full(half+`(string-length (string-append (string-append s s) ""))`), api.Report{Verdict: api.Done, Value: "1200", Steps: 14, Cells: 2})
	wantReport(t, "P14", full(half+`(string-append (string-append s s) "a")`), api.Report{Verdict: api.Overflow, Place: len(half), Steps: 11, Cells: 1})
	wantReport(t, "P14: Overflow ahead of the cell", limited(half+`(string-append (string-append s s) "a")`, 11, 1), api.Report{Verdict: api.Overflow, Place: len(half), Steps: 11, Cells: 1})
}

func TestP14Error(t *testing.T) {
	for _, c := range []struct{ text, value string }{
		{"(error '(1 \"a\"))", `(1 "a")`}, {"(error car)", "#<procedure>"}, {"(error (if #f 1))", "#<nothing>"}, {"(error \"x\")", `"x"`}, {"(error '())", "()"}, {"(list 1 (error 'e) x)", "e"},
	} {
		if r := New().Run(full("1 " + c.text + " 2")); r.Verdict != api.Raised || r.Place != 2 || r.Value != c.value {
			t.Errorf("P14: %s: %+v, want Raised, %s", c.text, r, c.value)
		}
	}
}

func TestP17Values(t *testing.T) {
	for _, c := range []struct{ text, want string }{
		{"(list 1 -2 #t #f \"a b\" 'c)", `(1 -2 #t #f "a b" c)`}, {"'(() (()))", "(() (()))"}, {"(cons 1 (cons '(2) 3))", "(1 (2) . 3)"},
		{"(list car (lambda (x) x) (seal '(1)) (if #f 1) out in)", "(#<procedure> #<procedure> #<seal> #<nothing> #<grant> #f)"},
		{"(cons out out)", "(#<grant> . #<grant>)"}, {"(lambda x x)", "#<procedure>"}, {"(seal (seal 1))", "#<seal>"}, {"out", "#<grant>"}, {"in", "#f"},
	} {
		s := full(c.text)
		s.Grants = api.Out
		if r := New().Run(s); r.Verdict != api.Done || r.Value != c.want {
			t.Errorf("P17: %s gives %+v, want %s", c.text, r, c.want)
		}
	}
	for grants := range 32 {
		want := "("
		for i := range 5 {
			want += []string{"#f ", "#<grant> "}[grants>>i&1]
		}
		s := full("(list out in clock dice key)")
		s.Grants = grants
		if r := New().Run(s); r.Value != strings.TrimSpace(want)+")" {
			t.Errorf("P17: grants %d: %+v, want %s", grants, r, want)
		}
	}
}
