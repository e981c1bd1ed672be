package pupil

import (
	"strings"
	"testing"

	"pupil/api"
)

const (
	swap   = "(define-syntax swap (syntax-rules () ((_ a b) (let ((t a)) (begin (set! a b) (set! b t))))))"
	myOr   = "(define-syntax my-or (syntax-rules () ((_) #f) ((_ x) x) ((_ x y ...) (let ((t x)) (if t t (my-or y ...))))))"
	one    = "(define-syntax one (syntax-rules () ((_) 1)))"
	ignore = "(define-syntax ignore (syntax-rules () ((_ x ...) 0)))"
)

// macro defines the macro m.
func macro(literals string, rules ...string) string {
	return "(define-syntax m (syntax-rules (" + literals + ") " + strings.Join(rules, " ") + ")) "
}

// wantRewritten wants a text to be done, with a value and so many rewrites.
func wantRewritten(t *testing.T, promise, text, want string, rewrites int) {
	t.Helper()
	if r := New().Run(full(text)); r.Verdict != api.Done || r.Value != want || r.Rewrites != rewrites {
		t.Errorf("%s: %s gives %+v, want %s with %d rewrites", promise, text, r, want, rewrites)
	}
}

// wantMalformed wants the last form of a text to be malformed, with so many rewrites by then.
func wantMalformed(t *testing.T, promise, ahead, form string, rewrites int) {
	t.Helper()
	if r := New().Run(full(ahead + form)); r.Verdict != api.Malformed || r.Place != len(ahead) || r.Rewrites != rewrites || r.Value != "" {
		t.Errorf("%s: %s%s gives %+v, want it malformed at %d with %d rewrites", promise, ahead, form, r, len(ahead), rewrites)
	}
}

func TestExamplesOfMacros(t *testing.T) {
	wantRewritten(t, "P10, P11", swap+" (define t 1) (define u 2) (swap t u) (cons t u)", "(2 . 1)", 1)
	wantRewritten(t, "P10, P11", myOr+" (let ((t 5)) (my-or #f t))", "5", 2)
}

func TestP10Patterns(t *testing.T) {
	for _, c := range []struct{ pattern, matched, unmatched string }{
		{"(_)", "(m)", "(m 1) (m ())"},
		{"(x)", "(m)", "(m 1)"},
		{"(if)", "(m)", "(m 1)"},
		{"(_ x)", "(m 1) (m ()) (m if) (m m) (m (1 2)) (m x) (m ...) (m _)", "(m) (m 1 2)"},
		{"(x x)", "(m 1)", "(m) (m 1 2)"}, // the first one stands for nothing
		{"(_ _)", "(m 1) (m ()) (m _)", "(m) (m 1 2)"},
		{"(_ _ _)", "(m 1 2) (m 1 1)", "(m 1) (m 1 2 3)"},
		{"(_ 7)", "(m 7) (m 007)", `(m 8) (m -7) (m "7") (m #t) (m (7)) (m x) (m) (m 7 7)`},
		{"(_ 0)", "(m 0) (m -0)", `(m #f) (m "") (m ()) (m 1) (m x)`},
		{"(_ 1)", "(m 1)", "(m #t)"},
		{"(_ #t)", "(m #t)", `(m #f) (m 1) (m ()) (m "#t") (m x)`},
		{"(_ #f)", "(m #f)", `(m #t) (m 0) (m ()) (m "")`},
		{`(_ "ab")`, `(m "ab")`, `(m "a") (m "abc") (m ab) (m "") (m ("ab"))`},
		{`(_ "")`, `(m "")`, `(m 0) (m #f) (m ()) (m " ")`},
		{"(_ ())", "(m ())", "(m) (m (1)) (m 1) (m x) (m (())) (m #f)"},
		{"(_ (x y))", "(m (1 2)) (m (() ())) (m 'a)", `(m (1)) (m (1 2 3)) (m 1 2) (m 1) (m "xy")`},
		{"(_ (x (1 y)) z)", "(m (1 (1 2)) 3)", "(m (1 (2 2)) 3) (m (1 (1)) 3) (m (1 1) 3) (m (1 (1 2)))"},
		{"(_ '1)", "(m '1)", "(m 1) (m '2)"},
		{"(_ x ...)", "(m) (m 1) (m 1 (2) 3 4 5)", ""},
		{"(_ x y ...)", "(m 1) (m 1 2) (m 1 2 3)", "(m)"},
		{"(_ x y z ...)", "(m 1 2) (m 1 2 3)", "(m) (m 1)"},
		{"(_ _ ...)", "(m) (m 1) (m 1 ())", ""},
		{"(_ 1 ...)", "(m) (m 1) (m 1 1 1)", "(m 2) (m 1 1 2) (m 2 1 1) (m 1 2 1)"},
		{"(_ () ...)", "(m) (m () ())", "(m () 1) (m (()))"},
		{"(_ (x ...))", "(m ()) (m (1)) (m (1 2))", "(m) (m 1) (m () ())"},
		{"(_ (x y) ...)", "(m) (m (1 2)) (m (1 2) (3 4))", "(m 1) (m (1)) (m (1 2) (3)) (m (1 2 3))"},
		{"(_ (x y ...) ...)", "(m) (m (1)) (m (1 2) (3) (4 5 6))", "(m ()) (m 1) (m (1) ())"},
		{"(_ ((x ...) ...) ...)", "(m) (m ()) (m (() (1)) ())", "(m 1) (m (1)) (m () (() 1))"},
		{"(_ (1 x ...) y)", "(m (1) 2) (m (1 2 3) 2)", "(m (1)) (m (2) 2) (m () 2)"},
	} {
		for _, use := range usesIn(c.matched) {
			wantRewritten(t, "P10: "+c.pattern+" matches", macro("", "("+c.pattern+" 'yes)", "((_ x ...) 'no)")+use, "yes", 1)
		}
		for _, use := range usesIn(c.unmatched) {
			wantRewritten(t, "P10: "+c.pattern+" does not match", macro("", "("+c.pattern+" 'yes)", "((_ x ...) 'no)")+use, "no", 1)
			wantMalformed(t, "P11: no rule matches", macro("", "("+c.pattern+" 'yes)"), use, 1)
		}
	}
}

func TestP10NoRules(t *testing.T) {
	wantRewritten(t, "P9, P10", macro(""), "#<nothing>", 0)
	wantRewritten(t, "P9, P10", macro("x y"), "#<nothing>", 0)
	wantMalformed(t, "P11: no rule matches", macro(""), "(m)", 1)
}

// usesIn answers the uses of m that stand one after the other.
func usesIn(text string) []string {
	if text == "" {
		return nil
	}
	return strings.Split(strings.ReplaceAll(text, " (m", "\n(m"), "\n")
}

func TestP10Literals(t *testing.T) {
	here := macro("here _ if list one", "((_ here) 'here)", "((_ 1 _) 'low)", "((_ if) 'if)", "((_ list) 'list)", "((_ one) 'one)", "((_ x ...) 'else)")
	for _, c := range []struct {
		text, want string
		rewrites   int
	}{
		{"(m here)", "here", 1}, {"(m there)", "else", 1}, {`(m "here")`, "else", 1}, {"(m (here))", "else", 1}, {"(m 'here)", "else", 1},
		{"(m 1 _)", "low", 1}, {"(m 1 x)", "else", 1},
		{"(m if)", "if", 1}, {"(m list)", "list", 1}, {one + "(m one)", "one", 1}, // whatever it means, but a variable of a lambda or let
		{"(define here 1) (m here)", "here", 1},
		{"(let ((here 1)) (m here))", "else", 1}, {"(let ((there 1)) (m here))", "here", 1}, {"((lambda here (m here)))", "else", 1}, {"((lambda (x) ((lambda (y here) (let () (m here))) 1 2)) 3)", "else", 1},
		{"(let ((if 1)) (m if))", "else", 1}, {"(let ((_ 1)) (m 1 _))", "else", 1}, {"(let ((here 1)) here) (m here)", "here", 1},
		{"(let ((here (m here))) here)", "here", 1},
		// One that a macro puts there is no variable of its user.
		{"(define-syntax n (syntax-rules () ((_) (m here)))) (let ((here 1)) (n))", "here", 2},
		{"(define-syntax n (syntax-rules () ((_ x) (m x)))) (let ((here 1)) (n here))", "else", 2},
		{"(define-syntax n (syntax-rules () ((_) (let ((here 1)) (m here))))) (n)", "else", 2},
		{"(define-syntax n (syntax-rules () ((_ x) (let ((here 1)) (m x))))) (n here)", "here", 2},
	} {
		wantRewritten(t, "P10", here+c.text, c.want, c.rewrites)
	}
	for _, c := range []struct{ definition, use, want string }{
		{macro("in", "((_ x in ...) 'yes)", "((_ x ...) 'no)"), "(list (m 1) (m 1 in in) (m 1 in 2))", "(yes yes no)"},
		{macro("in in", "((_ in in) 'yes)", "((_ x ...) 'no)"), "(list (m in in) (m in))", "(yes no)"},
		{macro("m", "((m m) 'yes)", "((_ x) 'no)"), "(list (m m) (m 1))", "(yes no)"},
		{macro("in", "((in x) '(in x))"), "(m 1)", "(in 1)"},
		{macro("else", "((_ (else x)) x)", "((_ (c x) (d y) ...) (if c x (m (d y) ...)))"), "(list (m (#f 1) (#t 2) (else 3)) (m (#f 1) (else 3)))", "(2 3)"},
	} {
		wantValue(t, "P10", c.definition+c.use, c.want)
	}
}

func TestP10Templates(t *testing.T) {
	for _, c := range []struct{ rule, use, want string }{
		{"((_) 7)", "(m)", "7"}, {"((_) #f)", "(m)", "#f"}, {`((_) "a")`, "(m)", `"a"`}, {"((_) 'x)", "(m)", "x"}, {"((_) '())", "(m)", "()"}, {"((_) 'm)", "(m)", "m"}, {"((_) '_)", "(m)", "_"},
		{"((_ x) x)", "(m '(1 (2)))", "(1 (2))"}, {"((_ x) 'x)", "(m (1 (a)))", "(1 (a))"}, {"((_ x y) '(y x y z))", "(m 1 (2))", "((2) 1 (2) z)"}, {"((_ x) '((x) ((x))))", "(m a)", "((a) ((a)))"},
		{"((x) 'x)", "(m)", "x"}, {"((x x) 'x)", "(m 5)", "5"}, {"((x y) '(x y))", "(m 5)", "(x 5)"},
		{"((_ (x (y)) z) '(z y x))", "(m (1 (2)) 3)", "(3 2 1)"},
		{"((_ x ...) '(x ...))", "(m)", "()"}, {"((_ x ...) '(x ...))", "(m 1 (2) a)", "(1 (2) a)"}, {"((_ x ...) '(a x ... b))", "(m 1 2)", "(a 1 2 b)"}, {"((_ x ...) '(x ... x ...))", "(m 1 2)", "(1 2 1 2)"},
		{"((_ x ...) '((x) ...))", "(m 1 2)", "((1) (2))"}, {"((_ x ...) '((x x 7 a) ...))", "(m 1 2)", "((1 1 7 a) (2 2 7 a))"}, {"((_ x ...) '(((x)) ... (x ...)))", "(m 1 2)", "(((1)) ((2)) (1 2))"},
		{"((_ y x ...) '(y (x y) ... y))", "(m 0 1 2)", "(0 (1 0) (2 0) 0)"}, {"((_ y x ...) '(y))", "(m 0 1 2)", "(0)"},
		{"((_ (x y) ...) '((x ...) (y ...)))", "(m (1 2) (3 4))", "((1 3) (2 4))"}, {"((_ (x y) ...) '((y x) ...))", "(m (1 2) (3 4))", "((2 1) (4 3))"},
		{"((_ (x ...) (y ...)) '((x y) ...))", "(m (1 2) (3 4))", "((1 3) (2 4))"}, {"((_ (x ...) (y ...)) '((x y) ...))", "(m () ())", "()"}, {"((_ (x ...) (y ...)) '(x ... y ...))", "(m (1 2) (3))", "(1 2 3)"},
		{"((_ (x y ...) ...) '((y ... x) ...))", "(m (1 2 3) (4) (5 6))", "((2 3 1) (4) (6 5))"}, {"((_ (x y ...) ...) '((x ...) (y ...) ...))", "(m (1 2 3) (4) (5 6))", "((1 4 5) (2 3) () (6))"},
		{"((_ z (x ...) ...) '((z (x z) ...) ...))", "(m 0 (1 2) () (3))", "((0 (1 0) (2 0)) (0) (0 (3 0)))"},
		{"((_ ((x ...) ...) ...) '(((x ...) ...) ...))", "(m ((1 2) ()) () ((3)))", "(((1 2) ()) () ((3)))"},
		{"((_ ((x y ...) ...) ...) '(((y ...) ...) ... (x ...) ...))", "(m ((1 2 3) (4)) ((5 6)))", "(((2 3) ()) ((6)) (1 4) (5))"},
		{"((_ (x ...) (y ...) ...) '((x (y ...)) ...))", "(m (1 2) (3 4) ())", "((1 (3 4)) (2 ()))"},
		{"((_ x ...) (list (+ x 1) ...))", "(m 1 2)", "(2 3)"}, {"((_ (v x) ...) (let ((v x) ...) (list v ...)))", "(m (a 1) (b 2))", "(1 2)"}, {"((_ f x ...) (f x ...))", "(m - 5 3)", "2"},
		{"((_ x) '(x ()))", "(m ...)", "(... ())"}, {"((_ x ...) '((x) ...))", "(m ... _)", "((...) (_))"},
	} {
		wantRewritten(t, "P10", macro("", c.rule)+c.use, c.want, 1)
	}
}

func TestP10MalformedDefinitions(t *testing.T) {
	for _, form := range []string{
		"(define-syntax)", "(define-syntax m)", "(define-syntax m 1)", "(define-syntax m x)", "(define-syntax m ())", "(define-syntax m (syntax-rules () ((_) 1)) 1)", "(define-syntax (m) (syntax-rules ()))",
		`(define-syntax 1 (syntax-rules ()))`, `(define-syntax "m" (syntax-rules ()))`, "(define-syntax () (syntax-rules ()))",
		"(define-syntax m (syntax-rules))", "(define-syntax m (syntax-rule ()))", `(define-syntax m ("syntax-rules" ()))`, "(define-syntax m ((syntax-rules) ()))", "(define-syntax m (() ()))", "(define-syntax m syntax-rules)",
		"(define-syntax m (syntax-rules x))", "(define-syntax m (syntax-rules 1))", "(define-syntax m (syntax-rules (1)))", "(define-syntax m (syntax-rules (x (y))))", "(define-syntax m (syntax-rules (...)))", "(define-syntax m (syntax-rules (x ...)))", `(define-syntax m (syntax-rules ("x")))`,
	} {
		wantMalformed(t, "P9", "7 ", form, 0)
	}
	for _, k := range keywords() {
		wantMalformed(t, "P9: a keyword", "7 ", "(define-syntax "+k+" (syntax-rules () ((_) 1)))", 0)
	}
	for _, rule := range []string{
		"1", "x", "()", "((_))", "((_) 1 2)", "(_ 1)", "(() 1)", "((1) 1)", `(("_") 1)`, "((()) 1)", "(((_)) 1)", "(1 1)", `("_" 1)`, // no rule, or no pattern
		"((...) 1)", "((... x) 1)", "((... ...) 1)", "((_ ...) 1)", "((_ ... x) 1)", "((_ x ... y) 1)", "((_ x ... ...) 1)", "((_ (...)) 1)", "((_ (... x)) 1)", "((_ (x ... y)) 1)", "((_ (x ... ...)) 1)", "((_ ... ...) 1)", "((_ x ... y ...) 1)", "((_ (x ... y) ...) 1)", "((_ x (... ...)) 1)", // dots in the pattern
		"((_ x x) 1)", "((_ x (x)) 1)", "((_ (x y) (z y)) 1)", "((_ x x ...) 1)", "((_ (x ...) (x ...)) 1)", "((_ ((x x) ...) ...) 1)", // twice in the pattern
		"((_) ...)", "((_) (...))", "((_ x ...) (... x))", "((_ x ...) (x ... ...))", "((_ x ...) (... ...))", "((_ x ...) (7 (...)))", "((_ (x ...) ...) (x ... ...))", "((_ x ...) ((x ... ...) 1))", // dots in the template
		"((_) (1 ...))", "((_) (x ...))", "((_) (() ...))", "((_) ((_) ...))", "((_ x) (x ...))", "((_ x) ((x 1) ...))", "((_ x y ...) (x ...))", "((_ x y ...) (y ... (x x) ...))", "((x ...) 1)", "((x y ...) (x ...))", // without a row
		"((_ x ...) x)", "((_ x ...) (x))", "((_ x ...) (x ... x))", "((_ x ...) ((x ...) ...))", "((_ x ...) (((x) ...) ...))", "((_ (x ...) ...) x)", "((_ (x ...) ...) (x ...))", "((_ (x ...) ...) ((x) ...))", "((_ (x ...) ...) (((x ...) ...) ...))", "((_ (x y ...) ...) (((x y) ...) ...))", "((_ (x y ...) ...) ((x y) ...))", "((_ (x ...) (y ...) ...) (((x y) ...) ...))", // not so deep as its rows
	} {
		wantMalformed(t, "P10", "7 ", macro("", rule), 0)
		wantMalformed(t, "P10", "7 ", macro("", "((_) 1)", rule, "((_ y) 2)"), 0)
	}
	wantMalformed(t, "P10: dots behind a literal", "", macro("x", "((_ x ...) (x ...))"), 0)
	wantMalformed(t, "P9: a form of the text alone", "", "(begin (define-syntax m (syntax-rules ())))", 0)
	wantMalformed(t, "P9: a form of the text alone", "", "(lambda () (define-syntax m (syntax-rules ())))", 0)
	wantMalformed(t, "P9: a form of the text alone", "", "(define x (define-syntax m (syntax-rules ())))", 0)
	wantMalformed(t, "P9: a form of the text alone", macro("", "((_) (define-syntax n (syntax-rules ())))"), "(let () (m))", 1)
}

func TestP10RowsOfDifferentLengths(t *testing.T) {
	pairs := macro("", "((_ (x ...) (y ...)) '((x y) ...))", "((_ x ...) 'no)")
	for _, use := range usesIn("(m (1 2) (3)) (m (1) (3 4)) (m () (3)) (m (1) ())") {
		wantMalformed(t, "P10", pairs, use, 1)
	}
	deep := macro("", "((_ (x ...) (y ...) ...) '((x y ...) ...))")
	wantRewritten(t, "P10", deep+"(m (1 2) (3 4) ())", "((1 3 4) (2))", 1)
	wantMalformed(t, "P10", deep, "(m (1) (3 4) ())", 1)
	wantMalformed(t, "P10", deep, "(m (1 2) (3 4))", 1)
	inner := macro("", "((_ ((x ...) (y ...)) ...) '(((x y) ...) ...))")
	wantRewritten(t, "P10", inner+"(m ((1) (2)) ((3 4) (5 6)))", "(((1 2)) ((3 5) (4 6)))", 1)
	wantMalformed(t, "P10", inner, "(m ((1) (2)) ((3 4) (5)))", 1)
}

// What a macro puts in is told apart from what its user has there, and from what it put in at another use.
func TestP11Marks(t *testing.T) {
	two := "(define-syntax two (syntax-rules () ((_ x) (list x x))))"
	nested := "(define-syntax tag (syntax-rules () ((_ x y) (let ((t x)) (list t y)))))"
	for _, c := range []struct {
		text, want string
		rewrites   int
	}{
		{swap + "(let ((t 1) (a 2)) (swap t a) (list t a))", "(2 1)", 1},
		{swap + "(let ((t 1) (a 2)) (swap a t) (list t a))", "(2 1)", 1},
		{swap + "(define a 1) (define b 2) (swap b a) (list a b)", "(2 1)", 1},
		{swap + "(let ((let 1) (set! 2)) (swap let set!) (list let set!))", "(2 1)", 1},
		{swap + "(let ((begin 1) (swap 2)) (list begin swap))", "(1 2)", 0},
		{myOr + "(let ((t 5)) (my-or #f #f t))", "5", 3},
		{myOr + "(let ((t 5) (if list) (let 7)) (my-or #f let t))", "7", 2 + 1},
		{myOr + "(let ((t #f)) (my-or t (my-or t 3)))", "3", 4},
		{nested + "(let ((t 1)) (tag 2 t))", "(2 1)", 1},
		{nested + "(tag 1 (tag 2 3))", "(1 (2 3))", 2},
		{nested + "(let ((t 1)) (tag 2 (tag t t)))", "(2 (1 1))", 2},
		{nested + "(define t 9) (tag 2 t)", "(2 9)", 1},
		{two + "(let ((list 5)) (two list))", "(5 5)", 1},
		{two + "((lambda list (two list)) 5)", "((5) (5))", 1},
		{two + "(define list +) (two 5)", "10", 1}, // what is global is so for all
		{two + "(let ((x 5)) (two x))", "(5 5)", 1},
		{macro("", "((_ v x b) (let ((v x)) b))") + "(m y 5 (+ y 1))", "6", 1},
		{macro("", "((_ x) (let ((y 1)) (+ x y)))") + "(let ((y 10)) (m y))", "11", 1},
		{macro("", "((_ x) (let ((x 1) (y 2)) (list x y)))") + "(m y)", "(1 2)", 1},
		{macro("", "((_ b) (let ((it 1)) b))") + "(define it 5) (m it)", "5", 1},
		{macro("", "((_ x) (lambda (y) (list x y)))") + "((lambda (y) ((m y) 2)) 1)", "(1 2)", 1},
		{macro("", "((_ x) (lambda y (list x y)))") + "((lambda (y) ((m y) 2)) 1)", "(1 (2))", 1},
		{macro("", "((_ x y) (lambda (x y a) (list a y x)))") + "((m a b) 1 2 3)", "(3 2 1)", 1},
		{macro("", "((_ n) (n 1))", "((_ n a) '(n a))") + "(let ((m list)) (m car '(2)))", "(#<procedure> (2))", 0},
		{macro("", "((_ x) (m x a))", "((_ x y) (let ((x 1) (y 2)) (list x y)))") + "(m a)", "(1 2)", 2}, // a of the user and a of the first use
		{macro("", "((_) (let ((x 1)) (m x)))", "((_ y) (let ((x 2)) (list x y)))") + "(m)", "(2 1)", 2},
		{macro("", "((_) '(a (b if)))") + "(m)", "(a (b if))", 1}, // a datum is without marks
		{macro("", "((_ x) (eq? 'a 'x))") + "(m a)", "#t", 1},
	} {
		wantRewritten(t, "P8, P11", c.text, c.want, c.rewrites)
	}
	wantMalformed(t, "P9: the same identifier twice", macro("", "((_ x) (lambda (x y x) 1))"), "(m a)", 1)
	wantMalformed(t, "P9: the same identifier twice", macro("", "((_ x) (lambda (y x y) 1))"), "(m a)", 1)
	wantMalformed(t, "P9: a keyword, if there is no variable of this use", macro("", "((_) if)"), "(let ((if 1)) (m))", 1)
}

func TestP9MacrosAndDefinitions(t *testing.T) {
	for _, c := range []struct {
		text, want string
		rewrites   int
	}{
		{macro("", "((_ v x) (define v x))") + "(m y 5) y", "5", 1},
		{macro("", "((_ x) (define hidden x))") + "(m 5) hidden", "5", 1},
		{macro("", "((_ x) (define hidden x))") + "(m 5)", "#<nothing>", 1},
		{macro("", "((_ f x) (define (f y) (list x y)))") + "(define y 1) (m g y) (g 2)", "(1 2)", 1},
		{macro("", "((_ x) (define (twice y) (list x y)))") + "(define y 1) (m y) (twice 2)", "(1 2)", 1},
		{macro("", "((_ x ...) (m2 define x ...))") + "(define-syntax m2 (syntax-rules () ((_ d x ...) (d x ...)))) (m y 5) y", "5", 2},
		{macro("", "((_ n) (define-syntax n (syntax-rules () ((_ x) '(x n)))))") + "(m k) (k 3)", "(3 k)", 2},
		{macro("", "((_ n) (define-syntax n (syntax-rules () ((_ x) '(x n)))))") + "(m m) (m 3)", "(3 m)", 2},
		{macro("", "((_) (define-syntax n (syntax-rules () ((_) 1))))") + "(m) (n)", "1", 2},
		{macro("", "((_ n a) (define-syntax n (syntax-rules () ((_ a x) '(a x)))))") + "(m k x) (k 1 2)", "(1 2)", 2}, // x of the text and x of the use
		{macro("", "((_ n d) (define-syntax n (syntax-rules () ((_ x d) '(x d)))))") + "(m k ...) (k 1 2)", "(1 2)", 2},
		{macro("", "((_ n l) (define-syntax n (syntax-rules (l) ((_ l) 1) ((_ _) 2))))") + "(m k in) (list (k in) (k 3))", "(1 2)", 3},
		{macro("", "((_ n) (define-syntax n (syntax-rules (in) ((_ in) 1) ((_ _) 2))))") + "(m k) (list (k in) (k 3))", "(1 2)", 3},
		{macro("", "((_ s) (define-syntax n (s () ((_) 1))))") + "(m syntax-rules) (n)", "1", 2},
		{"(define m 2)" + macro("", "((_) 1)") + "(m)", "1", 1},
		{"(define m 2) (define (f) m)" + macro("", "((_) 1)") + "(list (f) (m))", "(2 1)", 1},
		{"(define (f) (m)) (define (m) 2)" + macro("", "((_) 1)") + "(f)", "2", 0},
		{macro("", "((_) 1)") + "(define m 2) m", "2", 0},
		{macro("", "((_) 1)") + "(define (f) (m)) (define (m) 2) (list (f) (m))", "(1 2)", 1},
		{macro("", "((_) 1)") + "(define (m x) (if (= x 0) 'end (m (- x 1)))) (m 3)", "end", 0},
		{macro("", "((_) 1)") + "(define m (lambda () m)) (procedure? (m))", "#t", 0},
		{macro("", "((_) 1)") + "(define m (lambda () (m))) 3", "3", 0},
		{macro("", "((_) 1)") + macro("", "((_) 3)") + "(m)", "3", 1},
		{macro("", "((_) 1)") + "(let ((m (lambda () 2))) (m))", "2", 0},
		{macro("", "((_) 1)") + "(define (f m) (set! m 3) m) (f 2)", "3", 0},
		{macro("", "((_) 1)") + "'(m (m))", "(m (m))", 0},
		{"(define-syntax ... (syntax-rules () ((_ x) x))) (... 5)", "5", 1},
		{"(define-syntax _ (syntax-rules () ((_ x) '(_ x)))) (_ 5)", "(_ 5)", 1},
		{"(define-syntax syntax-rules (syntax-rules () ((_ x) x)))" + macro("", "((_) (syntax-rules 4))") + "(m)", "4", 2},
		{"(define-syntax car (syntax-rules () ((_ x) 'mine))) (car 1)", "mine", 1},
	} {
		wantRewritten(t, "P8, P9", c.text, c.want, c.rewrites)
	}
	for _, form := range []string{"m", "(list m)", "(set! m 1)", "(if m 1 2)", "(lambda () m)", "(let ((m m)) 1)"} {
		wantMalformed(t, "P9: an identifier that means a macro", macro("", "((_ x) 1)"), form, 0)
	}
	definition := macro("", "((_) 1)")
	wantVerdict(t, "P9: the macro is gone ahead of x", definition+"(define m (m))", api.Unbound, len(definition))
	for _, form := range []string{"(begin (m))", "(lambda () (m))", "(define x (m))", "(if 1 (m))", "(list (m))"} {
		wantMalformed(t, "P9: a definition in a form", macro("", "((_) (define x 1))"), form, 1)
	}
	wantMalformed(t, "P9: no form", macro("", "((_) ())"), "(m)", 1)
	wantMalformed(t, "P9: a keyword is defined", macro("", "((_ v) (define v 1))"), "(m if)", 1)
	wantMalformed(t, "P9: a keyword is defined", macro("", "((_ v) (define if 1))"), "(m x)", 1)
}

// rewriting are texts that are done, with their rewrites.
func rewriting() []struct {
	text     string
	rewrites int
} {
	return []struct {
		text     string
		rewrites int
	}{
		{"1", 0}, {one, 0}, {one + "1", 0}, {one + "(one)", 1}, {one + "(one) (one)", 2}, {one + "(+ (one) (one))", 2},
		{one + "(if #t (one) (one))", 2}, {one + "(lambda () (one))", 1}, {one + "(define (f) (one) (one)) 5", 2}, {one + "(define (f) (one)) (list (f) (f) (f))", 1}, {one + "'(one)", 0},
		{one + "(let ((x (one))) (one))", 2}, {one + "(let ((one list)) (one))", 0},
		{ignore + "(ignore (ignore) (ignore))", 1}, {ignore + one + "(ignore (one) (if))", 1}, {ignore + "(list (ignore) (ignore (ignore)))", 2},
		{myOr + "(my-or)", 1}, {myOr + "(my-or 1)", 1}, {myOr + "(my-or 1 2)", 2}, {myOr + "(my-or #f #f #f 4)", 4}, {myOr + "(my-or (my-or 1 2) 3)", 4},
		{macro("", "((_) 0)", "((_ x y ...) (+ 1 (m y ...)))") + "(m 1 1 1 1 1 1 1 1 1 1)", 11},
	}
}

// Rewrites that are just enough are enough, and more change nothing; one short ends the run.
func TestP7P11Rewrites(t *testing.T) {
	for _, c := range rewriting() {
		s := full(c.text)
		want := New().Run(s)
		if want.Verdict != api.Done || want.Rewrites != c.rewrites {
			t.Errorf("P11: %s: %+v, want %d rewrites", c.text, want, c.rewrites)
		}
		for _, rewrites := range []int{c.rewrites, c.rewrites + 1} {
			s.Rewrites = rewrites
			wantReport(t, "P7, P20", s, want)
		}
		for s.Rewrites = range c.rewrites {
			if r := New().Run(s); r.Verdict != api.NoRewrite || r.Rewrites != s.Rewrites || r.Value != "" {
				t.Errorf("P7: %s with %d rewrites: %+v", c.text, s.Rewrites, r)
			}
		}
	}
	again := "(define-syntax again (syntax-rules () ((_) (again))))"
	for _, rewrites := range []int{0, 1, 9, api.MaxRewrites} {
		s := full(again + " 7 (again)")
		s.Rewrites = rewrites
		wantReport(t, "P7", s, api.Report{Verdict: api.NoRewrite, Place: 56, Steps: 1, Rewrites: rewrites})
	}
	s := full(one + " (one) (one 2)")
	s.Rewrites = 1
	wantReport(t, "P7: ahead of the rules", s, api.Report{Verdict: api.NoRewrite, Place: 52, Steps: 1, Rewrites: 1})
}

func TestP11Parts(t *testing.T) {
	ones := strings.Repeat(" 1", 148)
	for _, c := range []struct{ rule, use string }{
		{"((_ x) '(x x x x 1@))", "(m (" + ones + "))"},
		{"((_ x) '(x x x x ()@))", "(m (" + ones + "))"},
		{"((_ x) (begin 'x 'x 'x x x x x x x 'x@))", "(m (+" + strings.Repeat(" 1", 57) + "))"},
		{"((_ x ...) '((x 1 x) ... #t #f a \"a\" ()@))", "(m" + ones + ")"},
		{"((_ x ...) '(x ... x ... x ... x ... 1 1 1 1 1@))", "(m" + ones + ")"},
		{"((_ x ...) (begin (begin x 1) ... 1 1 1 1 1 1@))", "(m" + ones + ")"},
		{"((_ (x ...) ...) '(((x x x) ...) ... 1 1 1 1 1 1 1@))", "(m (" + ones[:74*2] + ") (" + ones[:73*2] + "))"},
	} {
		just := macro("", strings.ReplaceAll(c.rule, "@", ""))
		if r := New().Run(full(just + "(lambda () " + c.use + ")")); r.Verdict != api.Done || r.Rewrites != 1 {
			t.Errorf("P11: %s%s is of MaxParts parts: %+v", just, c.use, r)
		}
		wantMalformed(t, "P11: one part too many", macro("", strings.ReplaceAll(c.rule, "@", " 1")), c.use, 1)
	}
	quotes := strings.Repeat("'1", 350) // of three parts each
	wantValue(t, "P11: no macro made it", "(length '("+quotes+"))", "350")
	wantRewritten(t, "P11: it is not made of what it is used with", ignore+"(ignore "+quotes+")", "0", 1)
	wantMalformed(t, "P11", macro("", "((_ x) (m (x x)))"), "(m 1)", 9)
}

// Expansion goes from the outside in and from the left to the right: so it is seen by how many rewrites there were when something is malformed.
func TestP11Order(t *testing.T) {
	for _, c := range []struct {
		form     string
		rewrites int
	}{
		{"(list (one) (if) (one))", 1}, {"(list (one) (one) (one 1))", 3}, {"((one) (one) (if))", 2}, {"((if) (one))", 0},
		{"(if (one) (if) (one))", 1}, {"(if (one) (one) (if))", 2}, {"(if (one) (one) (one) (one))", 0}, {"(if (one))", 0},
		{"(begin (one) (begin (one) (if)) (one))", 2},
		{"(set! x (begin (one) (if)))", 1}, {"(set! if (one))", 0}, {"(set! one (one))", 0}, {"(set! x (one) (one))", 0},
		{"(lambda (x) (one) (if) (one))", 1}, {"(lambda (x x) (one))", 0}, {"(lambda (1) (one))", 0},
		{"(define x (begin (one) (if)))", 1}, {"(define if (one))", 0}, {"(define (f x x) (one))", 0}, {"(define (f) (one) (if))", 1},
		{"(let ((x (one)) (x 1)) (one))", 0}, {"(let ((x (one)) (y)) (one))", 0}, {"(let ((x (one)) (y (if)) (z (one))) 1)", 1},
		{"(let ((x (one))) (one) (if))", 1}, // the lambda comes first
		{"(ignore (if)) (if)", 1}, {"(list (ignore (if) (one)) (one) (if))", 2},
		{"(pass (one) (pass (one) (if)))", 4}, {"(pass (if) (one))", 1},
	} {
		text := one + ignore + "(define-syntax pass (syntax-rules () ((_ x y) (list x y))))" + c.form
		if r := New().Run(full(text)); r.Verdict != api.Malformed || r.Rewrites != c.rewrites {
			t.Errorf("P11: %s: %+v, want it malformed with %d rewrites", c.form, r, c.rewrites)
		}
	}
	wantReport(t, "P11: whole before it is evaluated", full(one+"(begin (error 1) (one 2))"), api.Report{Verdict: api.Malformed, Place: len(one), Rewrites: 1})
	wantReport(t, "P11: in a body that is never called", full(one+"(define (f) (one 2))"), api.Report{Verdict: api.Malformed, Place: len(one), Rewrites: 1})
	wantReport(t, "P11: a form ahead of the next one", full(one+"(error 1) (one)"), api.Report{Verdict: api.Raised, Place: len(one), Value: "1", Steps: 4})
	s := full(one + "(begin (error 1) (one))")
	s.Rewrites = 0
	wantReport(t, "P11: whole before it is evaluated", s, api.Report{Verdict: api.NoRewrite, Place: len(one)})
}

func TestP13MacrosTakeNoSteps(t *testing.T) {
	wantReport(t, "P13", limited(one, 0, 0), api.Report{Verdict: api.Done, Value: "#<nothing>"})
	wantReport(t, "P13", limited(one+myOr+swap, 0, 0), api.Report{Verdict: api.Done, Value: "#<nothing>"})
	wantReport(t, "P13", limited(one+"(one)", 1, 0), api.Report{Verdict: api.Done, Value: "1", Steps: 1, Rewrites: 1})
}
