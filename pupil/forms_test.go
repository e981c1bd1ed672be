package pupil

import (
	"strings"
	"testing"

	"pupil/api"
)

func keywords() []string {
	return strings.Fields("quote if define set! lambda let begin define-syntax")
}

func TestP8Variables(t *testing.T) {
	for _, c := range []struct{ text, want string }{
		{"(define x 1) x", "1"},
		{"(define x 1) ((lambda (x) x) 2)", "2"},
		{"(define x 1) ((lambda (y) x) 2)", "1"},
		{"(define x 1) ((lambda x x) 2)", "(2)"},
		{"(let ((x 1)) (let ((y 2)) (let ((z 3)) (list x y z))))", "(1 2 3)"},
		{"(let ((x 1)) (let ((x 2)) (let ((y 3)) x)))", "2"},
		{"(let ((x 1)) (let ((x 2) (y x)) (list x y)))", "(2 1)"},
		{"(let ((x 1) (y 2)) (let ((z 3)) ((lambda (y w) (list w z y x)) 4 5)))", "(5 3 4 1)"},
		{"(define x 1) (define (f) x) (let ((x 2)) (f))", "1"},
		{"(define x 1) (let ((x 2)) (set! x 3)) x", "1"},
		{"(define x 1) (let ((y 2)) (set! x 3)) x", "3"},
		{"(let ((x 1)) (let ((y 2)) (set! x 3) (list x y)))", "(3 2)"},
		{"(define (c) (let ((n 0)) (lambda () (set! n (+ n 1)) n))) (define a (c)) (define b (c)) (a) (a) (b) (list (a) (b))", "(3 2)"},
		{"(define (f) (g)) (define (g) 1) (f)", "1"},
		{"(define f (lambda (n) (if (= n 0) 'end (f (- n 1))))) (f 3)", "end"},
		{"(define out 1) (list out in clock dice key)", "(1 #f #f #f #f)"},
	} {
		wantValue(t, "P8", c.text, c.want)
	}
}

func TestP8Keywords(t *testing.T) {
	for _, k := range keywords() {
		wantVerdict(t, "P9: a keyword alone", "1 "+k, api.Malformed, 2)
		wantVerdict(t, "P9: a keyword as an argument", "(list "+k+")", api.Malformed, 0)
		wantVerdict(t, "P9: a keyword is set", "(set! "+k+" 1)", api.Malformed, 0)
		wantVerdict(t, "P9: a keyword is defined", "(define "+k+" 1)", api.Malformed, 0)
		wantVerdict(t, "P9: a keyword is defined", "(define ("+k+" x) 1)", api.Malformed, 0)
		wantValue(t, "P8: a keyword as a variable", "(let (("+k+" list)) ("+k+" 1 2 3))", "(1 2 3)")
		wantValue(t, "P8: a keyword as a variable", "((lambda "+k+" "+k+") 1 2)", "(1 2)")
		wantValue(t, "P8: a keyword as a variable", "((lambda (x "+k+") (list "+k+" x)) 1 2)", "(2 1)")
		wantValue(t, "P8: a keyword as a parameter", "(define (f "+k+") "+k+") (f 2)", "2")
		wantValue(t, "P8: a keyword as a datum", "(quote "+k+")", k)
	}
	wantValue(t, "P8: set! of a variable", "(let ((if 1)) (set! if 2) if)", "2")
	wantValue(t, "P9: let where lambda is a variable", "(let ((lambda 1)) (let ((x 2)) (list lambda x)))", "(1 2)")
	wantVerdict(t, "P8: ' where quote is a variable", "(let ((quote -)) '3)", api.Miscalled, 0)
	wantValue(t, "P8: ' where quote is a variable", "(let ((quote not)) '3)", "#f")
	wantVerdict(t, "P8: only around it", "(let ((if list)) 1) (if)", api.Malformed, 20)
}

func TestP9Forms(t *testing.T) {
	for _, c := range []struct{ text, want string }{
		{"7", "7"}, {"-0", "0"}, {"#t", "#t"}, {"#f", "#f"}, {`"a ;b"`, `"a ;b"`},
		{"(quote a)", "a"}, {"'(1 \"a\" (b . c))", `(1 "a" (b . c))`}, {"'(a #t -007)", "(a #t -7)"}, {"''a", "(quote a)"}, {"'()", "()"},
		{"'(if (lambda) ())", "(if (lambda) ())"},
		{"(if 1 2 3)", "2"}, {"(if #f 2 3)", "3"}, {"(if #t 2)", "2"}, {"(if #f 2)", "#<nothing>"},
		{"(if 0 1 2)", "1"}, {"(if '() 1 2)", "1"}, {`(if "" 1 2)`, "1"}, {"(if (if #f 1) 1 2)", "1"}, {"(if car 1 2)", "1"},
		{"(if #t 1 (error 2))", "1"}, {"(if #f (error 1) 2)", "2"},
		{"(define x 1) (list (set! x 2) x)", "(#<nothing> 2)"},
		{"(lambda (x) x)", "#<procedure>"}, {"((lambda () 5))", "5"}, {"((lambda (x y) (list y x)) 1 2)", "(2 1)"},
		{"((lambda x x))", "()"}, {"((lambda x x) 1)", "(1)"}, {"((lambda x x) 1 '(2))", "(1 (2))"}, {"((lambda (x) 1 2 x) 3)", "3"},
		{"(let () 5)", "5"}, {"(let ((x 1) (y 2)) 7 (list x y))", "(1 2)"},
		{"(begin 1)", "1"}, {"(begin 1 2 3)", "3"}, {"(define x 0) (begin (set! x 1) (set! x (+ x 5)) x)", "6"},
		{"(define x 5)", "#<nothing>"}, {"(define x 5) (define x 6) x", "6"}, {"(define (f) 1 2) (f)", "2"}, {"(define (f x y) (- x y)) (f 5 3)", "2"},
		{"(define (f . x) (cons . x)) (f 1 2)", "(1 . 2)"}, // a . alone is a symbol
		{"(define . 1) .", "1"}, {"(define ... 1) ...", "1"}, {"(define _ 1) _", "1"}, {"(define syntax-rules 1) syntax-rules", "1"},
		{"((if #f car cdr) '(1 2))", "(2)"}, {"(((lambda (x) (lambda (y) (list x y))) 1) 2)", "(1 2)"},
	} {
		wantValue(t, "P9", c.text, c.want)
	}
}

func TestP9Malformed(t *testing.T) {
	for _, form := range []string{
		"()", "(())", "(car ())", "(() 1)",
		"(quote)", "(quote 1 2)",
		"(if)", "(if 1)", "(if 1 2 3 4)", "(if () 1)", "(if 1 ())", "(if 1 2 ())",
		"(set!)", "(set! x)", "(set! x 1 2)", "(set! 1 2)", "(set! \"x\" 2)", "(set! (x) 2)", "(set! 'x 2)", "(set! x ())", "(set! if 2)",
		"(lambda)", "(lambda x)", "(lambda (x))", "(lambda () )", "(lambda 1 1)", "(lambda #t 1)", "(lambda \"x\" 1)", "(lambda (1) 1)", "(lambda ((x)) 1)", "(lambda (x #f) 1)",
		"(lambda (x x) 1)", "(lambda (x y z y) 1)", "(lambda x ())", "(lambda () 1 ())", "(lambda () () 1)",
		"(let)", "(let ())", "(let ((x 1)))", "(let x 1)", "(let 1 1)", "(let (x) 1)", "(let ((x)) 1)", "(let ((x 1 2)) 1)", "(let (()) 1)", "(let ((1 1)) 1)", "(let ((\"x\" 1)) 1)",
		"(let (((x) 1)) 1)", "(let ((x 1) (x 2)) 1)", "(let ((x ())) 1)", "(let ((x 1)) ())", "(let loop ((x 1)) 1)",
		"(begin)", "(begin ())", "(begin 1 () 2)",
		"(define)", "(define x)", "(define x 1 2)", "(define 1 2)", "(define \"x\" 2)", "(define () 1)", "(define (f))", "(define (1) 2)", "(define ((f)) 2)", "(define (f 1) 2)",
		"(define (f (x)) 2)", "(define (f x x) 2)", "(define x ())", "(define (f) ())", "(define (f) 1 ())",
		"(begin (define x 1))", "(let () (define x 1))", "(lambda () (define x 1))", "(define x (define y 1))", "(define (f) (define x 1))", "(if 1 (define x 1))", "(list (define x 1))", "((define x 1))",
		"(define-syntax)", "(define-syntax x)", "(begin (define-syntax x (syntax-rules ())))", "(lambda () (define-syntax x (syntax-rules ())))",
	} {
		want := api.Report{Verdict: api.Malformed, Place: 2, Steps: 1}
		wantReport(t, "P9", full("7 "+form+" (error 1)"), want)
		// Nothing of it is evaluated, as it is expanded whole ahead of that.
		if form[1:min(8, len(form))] != "define " {
			wantReport(t, "P9", full("7 (begin (error 1) "+form+")"), want)
			wantReport(t, "P9", full("7 (lambda () "+form+")"), want)
		}
	}
}
