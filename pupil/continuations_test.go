package pupil

import (
	"testing"

	"pupil/api"
)

// noting defines (note x), which puts x ahead of the list l, and (wind a b c), whose winder notes a and c.
const noting = "(define l '()) (define (note x) (set! l (cons x l)) x) (define (wind a b c) (dynamic-wind (lambda () (note a)) b (lambda () (note c)))) (define k #f) (define j #f) (define n 0) "

func TestP15Continuations(t *testing.T) {
	for _, c := range []struct{ text, want string }{
		{"(+ 1 (call/cc (lambda (k) (+ 10 (k 1)))))", "2"},
		{"(call/cc (lambda (k) 5))", "5"}, {"(+ 1 (call/cc (lambda (k) 5)))", "6"}, {"(call/cc procedure?)", "#t"}, {"(call/cc call/cc)", "#<procedure>"}, {"(call/cc list)", "(#<procedure>)"},
		{"(call/cc (lambda (k) (k (k 1))))", "1"}, {"(call/cc (lambda (k) (list 1 (k 2) (error 3))))", "2"}, {"(call/cc (lambda (k) (if (k #f) 1 2)))", "#f"}, {"(call/cc (lambda (k) (set! list (k 1)))) (list 2)", "(2)"},
		{"(call/cc (lambda (k) ((k 1) (error 2))))", "1"}, {"(call/cc (lambda (k) (apply k '(7))))", "7"}, {"(call/cc (lambda (k) (call/cc (lambda (j) (k 1))) (error 2)))", "1"}, {"(call/cc (lambda (k) (call/cc (lambda (j) (j 1))) 2))", "2"},
		{"(call/cc (lambda (k) (call/cc k)))", "#<procedure>"}, {"(eq? (call/cc list) (call/cc list))", "#f"}, {"(call/cc (lambda (k) (eq? k k)))", "#t"},
		{"(define (find p l) (call/cc (lambda (return) (let ((go (lambda (go l) (if (null? l) #f (begin (if (p (car l)) (return (car l))) (go go (cdr l))))))) (go go l))))) (list (find (lambda (x) (< 2 x)) '(1 2 3 4)) (find pair? '(1 2)))", "(3 #f)"},
		{"(let ((x (if (call/cc (lambda (k) (k #f))) 1 2))) (list x (begin (call/cc (lambda (k) (k 5))) 6)))", "(2 6)"},
		// Used again in the same form.
		{"(let ((k (call/cc (lambda (c) c)))) (if (procedure? k) (k 7) k))", "7"},
		{"(apply (call/cc (lambda (k) k)) (list (lambda (x) 3)))", "3"},
		{"(let ((n 0) (k #f)) (call/cc (lambda (c) (set! k c))) (set! n (+ n 1)) (if (< n 5) (k 0) n))", "5"},
		{"(let ((k #f) (n 0)) (let ((x (list n (call/cc (lambda (c) (set! k c) 1)) n))) (set! n (+ n 1)) (if (< n 3) (k (cons n x)) x)))", "(0 (2 0 (1 0 1 0) 1) 2)"},
		{"(let ((r (call/cc list))) (if (pair? r) ((car r) 1) r))", "1"},
		{"(((call/cc (lambda (k) k)) (lambda (x) x)) 6)", "6"},
		{"(define (g) (call/cc (lambda (k) (list 1 k)))) (let ((x (g))) (if (pair? x) ((car (cdr x)) 'again) x))", "again"},
		// The variables of a call are the same when it is come back to; those of calls behind it are new.
		{"(define k #f) (define (f) (let ((n 0)) (call/cc (lambda (c) (set! k c))) (set! n (+ n 1)) n)) (define r (f)) (if (< r 4) (k 0) r) r", "2"},
		{"(define k #f) (define p ((lambda (x) (lambda () (set! x (+ x 1)) x)) (call/cc (lambda (c) (set! k c) 0)))) (define q p) (p) (k 10) (list (p) (q) (p) (eq? p q))", "(11 2 12 #f)"},
		// In a later form: what the earlier one gives, the later one has, and the next one comes.
		{"(define k #f) (+ 100 (call/cc (lambda (c) (set! k c) 1))) (k 5)", "105"},
		{"(define k #f) (+ 100 (call/cc (lambda (c) (set! k c) 1))) (error (k 5))", "105"},
		{"(define k #f) (+ 100 (call/cc (lambda (c) (set! k c) 1))) (list 1 (k 5)) 7", "7"},
		{"(define k #f) (define n 0) (define r (+ 100 (call/cc (lambda (c) (set! k c) 0)))) (set! n (+ n 1)) (if (< n 3) (k n) 0) (list n r)", "(1 101)"},
		{"(define k #f) (define r (call/cc (lambda (c) (set! k c) 0))) (k 5)", "#<nothing>"},
		{"(define k #f) (define r (call/cc (lambda (c) (set! k c) 0))) (k 5) (k (+ r 1)) r", "6"},
		{"(define k #f) (define (f) (list 1 (call/cc (lambda (c) (set! k c) 2)) 3)) (define a (f)) (define b a) (k 9) (list a b)", "((1 9 3) (1 2 3))"},
		{"(call/cc (lambda (c) (set! car c))) (+ 1 (car 5))", "5"},
		{"(define k #f) (if (call/cc (lambda (c) (set! k c) #t)) 'yes 'no) (k #f)", "no"},
		{"(define k #f) (define-syntax m (syntax-rules () ((_ x) (list 'm x)))) (m (call/cc (lambda (c) (set! k c) 1))) (define (m x) 7) (k 2)", "(m 2)"},
		{"(define k #f) (define x (call/cc (lambda (c) (set! k c) 1))) (define-syntax x (syntax-rules () ((_) 'macro))) (k 2) (x)", "macro"},
	} {
		wantValue(t, "P15", c.text, c.want)
	}
	for _, c := range []struct {
		text    string
		verdict int
	}{
		{"(call/cc)", api.Miscalled}, {"(call/cc list list)", api.Miscalled}, {"(call/cc 1)", api.Mistyped}, {"(call/cc '(1))", api.Mistyped}, {"(call/cc (lambda () 1))", api.Miscalled}, {"(call/cc (lambda (x y) 1))", api.Miscalled},
		{"(call/cc (lambda (k) (k)))", api.Miscalled}, {"(call/cc (lambda (k) (k 1 2)))", api.Miscalled}, {"(call/cc (lambda (k) (apply k '())))", api.Miscalled}, {"(call/cc (lambda (k) (apply k 1)))", api.Mistyped},
		{"(call/cc (lambda (k) (k x)))", api.Unbound}, {"(+ 1 (call/cc (lambda (k) (k 'a))))", api.Mistyped}, {"((call/cc (lambda (k) k)) 1)", api.Mistyped},
	} {
		wantVerdict(t, "P14, P15", c.text, c.verdict, 0)
	}
	// What ends the run, ends it in the form that is being dealt with.
	wantVerdict(t, "P15", "(define k #f) (+ 1 (call/cc (lambda (c) (set! k c) 0))) (k 'a)", api.Mistyped, 56)
}

func TestP16Winders(t *testing.T) {
	for _, c := range []struct{ text, want string }{
		{"(list (wind 1 (lambda () (note 2) 9) 3) l)", "(9 (3 2 1))"},
		{"(list (dynamic-wind (lambda () 1) (lambda () 2) (lambda () 3)))", "(2)"},
		{"(wind 1 (lambda () (wind 2 (lambda () (note 3)) 4)) 5) l", "(5 4 3 2 1)"},
		// Left.
		{"(list (call/cc (lambda (k) (wind 1 (lambda () (k 9) (note 2)) 3))) l)", "(9 (3 1))"},
		{"(call/cc (lambda (k) (wind 1 (lambda () (wind 2 (lambda () (k 0)) 3)) 4))) l", "(4 3 2 1)"},
		{"(wind 1 (lambda () (call/cc (lambda (k) (wind 2 (lambda () (wind 3 (lambda () (k 0)) 4)) 5))) (note 6)) 7) l", "(7 6 5 4 3 2 1)"},
		{"(wind 1 (lambda () (call/cc (lambda (k) (k 0))) (note 2)) 3) l", "(3 2 1)"}, // no winder is left
		// Entered again, in a later form and in the same one.
		{"(wind 'in (lambda () (call/cc (lambda (c) (set! k c))) (note 'at)) 'out) (let ((c k)) (set! k #f) (if c (c 1) 0)) l", "(out at in out at in)"},
		{"(wind 1 (lambda () (wind 2 (lambda () (call/cc (lambda (c) (set! k c))) (note 3)) 4)) 5) (k 0) l", "(5 4 3 2 1 5 4 3 2 1)"},
		{"(begin (wind 1 (lambda () (call/cc (lambda (c) (set! k c))) (note 2)) 3) (set! n (+ n 1)) (if (< n 3) (k 0) (note n))) l", "(3 3 2 1 3 2 1 3 2 1)"},
		{"(list (wind 1 (lambda () (call/cc (lambda (c) (set! k c) 5))) 3)) (k 7)", "(7)"},
		// From one into another: what both have in force stays.
		{"(wind 1 (lambda () (wind 2 (lambda () (call/cc (lambda (c) (set! k c) 0))) 3) (if (< n 1) (wind 4 (lambda () (set! n 1) (k 0)) 5))) 6) l", "(6 3 2 5 4 3 2 1)"},
		{"(wind 1 (lambda () (wind 2 (lambda () (call/cc (lambda (c) (set! k c)))) 3)) 4) (set! l '()) (wind 5 (lambda () (wind 6 (lambda () (k 0)) 7)) 8) l", "(4 3 2 1 8 7 6 5)"},
		// Winders are told apart, though their procedures are the same.
		{"(define (a) (note 'a)) (define (c) (note 'c)) (dynamic-wind a (lambda () (call/cc (lambda (x) (set! k x)))) c) (set! l '()) (dynamic-wind a (lambda () (k 0)) c) l", "(c a c a)"},
		{"(define (a) (note 'a)) (define (c) (note 'c)) (dynamic-wind a (lambda () (dynamic-wind a (lambda () (call/cc (lambda (x) (set! k x)))) c)) c) (set! l '()) (dynamic-wind a (lambda () (k 0)) c) l", "(c c a a c a)"},
		// A winder is not in force while its own procedures are applied.
		{"(call/cc (lambda (k) (dynamic-wind (lambda () (note 1) (k 0)) (lambda () (note 2)) (lambda () (note 3))))) l", "(1)"},
		{"(call/cc (lambda (k) (dynamic-wind (lambda () (note 1)) (lambda () (note 2)) (lambda () (note 3) (k 0))))) l", "(3 2 1)"},
		{"(call/cc (lambda (k) (dynamic-wind (lambda () (note 1)) (lambda () (k 0)) (lambda () (note 3) (k 5) (note 4))))) l", "(3 1)"},
		{"(list (call/cc (lambda (k) (dynamic-wind (lambda () (note 1)) (lambda () (k 0)) (lambda () (k 5)))))) ", "(5)"},
		// The others are, when one of them goes elsewhere.
		{"(call/cc (lambda (k) (wind 1 (lambda () (dynamic-wind (lambda () (note 2)) (lambda () (k 0)) (lambda () (note 3) (k 5)))) 4))) l", "(4 3 2 1)"},
		{"(list (call/cc (lambda (k) (wind 1 (lambda () (call/cc (lambda (j) (dynamic-wind list (lambda () (k 0)) (lambda () (j 5))))) 6) 4))) l)", "(6 (4 1))"},
		// A continuation out of a winder's own procedure, used later, goes on with what was still to be done there.
		{"(call/cc (lambda (out) (wind 1 (lambda () (dynamic-wind (lambda () (note 2)) (lambda () (out 0)) (lambda () (call/cc (lambda (c) (set! k c))) (note 3)))) 4))) (set! n (+ n 1)) (if (< n 2) (begin (set! l (list l)) (k 0)) 0) l", "(4 3 1 (4 3 2 1))"},
		{"(dynamic-wind (lambda () (note 1) (call/cc (lambda (c) (set! k c))) (note 2)) (lambda () (note 3)) (lambda () (note 4))) (set! l '()) (k 0) l", "(4 3 2)"},
		{"(dynamic-wind (lambda () (note 1)) (lambda () 7) (lambda () (call/cc (lambda (c) (set! k c))) (note 4))) (set! l '()) (list (k 0))", "7"},
		{"(dynamic-wind (lambda () (note 1)) (lambda () (call/cc (lambda (c) (set! k c))) 7) (lambda () (call/cc (lambda (c) (set! j c))) (note 4))) (set! l '()) (k 0) (j 0) l", "(4 4 1)"},
		// Each time that b is come to, its winder is a new one.
		{"(dynamic-wind (lambda () (call/cc (lambda (c) (set! k c))) (note 'a)) (lambda () (if (= n 0) (call/cc (lambda (c) (set! j c))) (if (= n 1) (begin (set! n 2) (j 0)) 0))) (lambda () (note 'c))) (set! n 1) (set! l '()) (k 0) l", "(c a c a)"},
		// What is applied gives nothing on.
		{"(call/cc (lambda (k) (dynamic-wind (lambda () 1) (lambda () (k 2)) (lambda () 3))))", "2"},
		{"(dynamic-wind list (lambda () 1) list)", "1"}, {"(dynamic-wind list list (lambda x x))", "()"},
		{"(apply dynamic-wind (list list (lambda () 4) list))", "4"},
		{"(wind 1 (lambda () (wind 2 list 3) (wind 4 list 5)) 6) l", "(6 5 4 3 2 1)"},
	} {
		wantValue(t, "P16", noting+c.text, c.want)
	}
	for _, c := range []struct {
		text    string
		verdict int
	}{
		{"(dynamic-wind)", api.Miscalled}, {"(dynamic-wind list list)", api.Miscalled}, {"(dynamic-wind list list list list)", api.Miscalled}, {"(dynamic-wind 1 2)", api.Miscalled},
		{"(dynamic-wind 1 list list)", api.Mistyped}, {"(dynamic-wind list 1 list)", api.Mistyped}, {"(dynamic-wind list list 1)", api.Mistyped}, {"(dynamic-wind (lambda () (error 1)) list 1)", api.Mistyped},
		{"(dynamic-wind car list list)", api.Miscalled}, {"(dynamic-wind list car list)", api.Miscalled}, {"(dynamic-wind list list car)", api.Miscalled},
		{"(call/cc (lambda (k) (dynamic-wind list k list)))", api.Miscalled}, {"(call/cc (lambda (k) (dynamic-wind k list list)))", api.Miscalled},
		{"(call/cc (lambda (k) (dynamic-wind list (lambda () (k 1)) (lambda () (car 1)))))", api.Mistyped},
		{"(call/cc (lambda (k) (dynamic-wind list (lambda () (k)) (lambda () (car 1)))))", api.Miscalled}, // ahead of the winders
	} {
		wantVerdict(t, "P14, P16", c.text, c.verdict, 0)
	}
}

// A verdict ends the run at once: no winder is left.
func TestP16VerdictsLeaveNoWinders(t *testing.T) {
	wantReport(t, "P16", full("(dynamic-wind list (lambda () (error 1)) (lambda () (car 1)))"), api.Report{Verdict: api.Raised, Value: "1", Steps: 12, Cells: 2})
	wantReport(t, "P16", full("(dynamic-wind list (lambda () (car 1)) (lambda () (error 1)))"), api.Report{Verdict: api.Mistyped, Steps: 12, Cells: 2})
	wantReport(t, "P16", full("(dynamic-wind list (lambda () x) (lambda () (error 1)))"), api.Report{Verdict: api.Unbound, Steps: 9, Cells: 2})
	wantReport(t, "P16", limited("(dynamic-wind list (lambda () (+ 1 2)) list)", 10, 9), api.Report{Verdict: api.NoFuel, Steps: 10, Cells: 1})
}

// A program that goes out and in for ever runs until its steps are out.
func TestP1Continuations(t *testing.T) {
	for _, text := range []string{
		"((call/cc call/cc) (call/cc call/cc))",
		"(let ((k (call/cc list))) (k k))",
		"(define k #f) (call/cc (lambda (c) (set! k c))) (k 0) (k 0)",
		"(define k #f) (begin (call/cc (lambda (c) (set! k c))) (k 0))",
		"(define k #f) (begin (dynamic-wind list (lambda () (call/cc (lambda (c) (set! k c)))) list) (k 0))",
		"(define (f) (dynamic-wind list f list)) (f)",
		"(define (f) (dynamic-wind f list list)) (f)",
		"(define k #f) (define (f n) (if (= n 0) (call/cc (lambda (c) (set! k c))) (dynamic-wind list (lambda () (f (- n 1))) list))) (begin (f 300) (k 0))",
		"(define k #f) (dynamic-wind (lambda () (call/cc (lambda (c) (set! k c)))) list (lambda () (k 0)))",
	} {
		s := full(text)
		r := New().Run(s)
		checkReport(t, s, r)
		wantReport(t, "P2", s, r)
	}
}
