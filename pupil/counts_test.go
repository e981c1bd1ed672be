package pupil

import (
	"reflect"
	"testing"

	"pupil/api"
)

// counted are texts that are done, with what they take.
func counted() []struct {
	text         string
	steps, cells int
} {
	return []struct {
		text         string
		steps, cells int
	}{
		{"", 0, 0}, {"7", 1, 0}, {"#f", 1, 0}, {`"a"`, 1, 0}, {"car", 1, 0}, {"1 2 3", 3, 0},
		{"'a", 1, 0}, {"'()", 1, 0}, {"'(1 2)", 1, 2}, {"'((1) 2)", 1, 3}, {"'(())", 1, 1}, {"''a", 1, 2}, {"'(a (b (c d) ()) e)", 1, 8},
		{"(if 1 2 3)", 3, 0}, {"(if #f 2 3)", 3, 0}, {"(if #f 2)", 2, 0}, {"(if 1 2)", 3, 0}, {"(if '(1) '(2 3) '(4 5 6))", 3, 3},
		{"(define x 1)", 2, 0}, {"(define (f) 1)", 2, 1}, {"(define (f x y) 1 2)", 2, 1}, {"(define x 1) x", 3, 0}, {"(define x 1) (set! x 2)", 4, 0}, {"(define x '(1))", 2, 1},
		{"(lambda (x) x)", 1, 1}, {"(lambda x '(1 2))", 1, 1}, {"(begin 1)", 2, 0}, {"(begin 1 2)", 3, 0}, {"(begin (begin 1 2) 3)", 5, 0},
		{"((lambda () 1))", 4, 1}, {"((lambda () 1 2))", 5, 1}, {"((lambda (x) x) 1)", 5, 2}, {"((lambda (x y) x) 1 2)", 6, 3}, {"((lambda x x))", 4, 2}, {"((lambda x x) 1 2)", 6, 4},
		{"(let () 1)", 4, 1}, {"(let ((x 1)) x)", 5, 2}, {"(let ((x 1) (y '(2))) 3 x y)", 8, 4}, {"(let ((x 1)) (set! x 2))", 6, 2}, {"(let ((x 1)) (let ((y 2)) (+ x y)))", 13, 4},
		{"(define (f x) x) (f 1) (f 2)", 12, 3}, {"(define (f) '(1)) (f) (f)", 10, 3},
		{"(+ 1 2)", 5, 0}, {"(- 1 2)", 5, 0}, {"(* 1 2)", 5, 0}, {"(quotient 1 2)", 5, 0}, {"(remainder 1 2)", 5, 0}, {"(= 1 2)", 5, 0}, {"(< 1 2)", 5, 0}, {"(+ (+ 1 2) 3)", 9, 0},
		{"(cons 1 2)", 5, 1}, {"(car '(1))", 4, 1}, {"(cdr '(1))", 4, 1}, {"(null? '())", 4, 0}, {"(not 1)", 4, 0}, {"(seal? 1)", 4, 0},
		{"(eq? 1 1)", 5, 0}, {"(eq? '(1) '(1))", 5, 2},
		{"(equal? 1 1)", 5, 0}, {"(equal? '(1) 1)", 5, 1}, {"(equal? '() '(1))", 5, 1}, {"(equal? '(1 2) '(1 2))", 7, 4}, {"(equal? '(1 2) '(2 2))", 6, 4}, {"(equal? '(1 2) '(1 3))", 7, 4},
		{"(equal? '((1 2) 3 4) '((1 3) 3 4))", 8, 10}, {"(equal? '((1 2) 3) '((1 2) 4))", 9, 8}, {"(equal? '(1) '(1 2))", 6, 3}, {"(let ((x '(1 (2)))) (equal? x x))", 12, 5},
		{"(list)", 3, 0}, {"(list 1 2)", 5, 2}, {"(length '())", 4, 0}, {"(length '(1 2))", 6, 2}, {"(length '((1 2)))", 5, 3},
		{"(append '() '(1))", 5, 1}, {"(append '(1 2) '(3))", 7, 5}, {"(append '(1) 2)", 6, 2},
		{`(string-append "a" "b")`, 5, 1}, {`(string-length "a")`, 4, 0}, {"(number->string 1)", 4, 1}, {"(symbol->string 'a)", 4, 1}, {"(seal 1)", 4, 1}, {"(seal '(1 2))", 4, 3},
		{"(apply + '(1 2))", 8, 2}, {"(apply list '())", 6, 0}, {"(apply list '(1 2))", 8, 4}, {"(apply (lambda x x) '(1))", 8, 4}, {"(apply apply (list + '(1 2)))", 15, 4},
		{"secrets", 1, 0}, {"(list out in clock dice key)", 8, 5},
		{"(define (f x) (if (= x 0) 1 (* x (f (- x 1))))) (f 5)", 103, 7},
		{one, 0, 0}, {one + "(one)", 1, 0}, {one + "(+ (one) 1)", 5, 0}, {macro("", "((_ x ...) '(x ...))") + "(m 1 2 (3))", 1, 4}, {swap + "(define t 1) (define u 2) (swap t u) (cons t u)", 18, 3},
		{"(call/cc (lambda (k) (k 1)))", 9, 3}, {"(+ 1 (call/cc (lambda (k) (+ 10 (k 1)))))", 16, 3}, {"(call/cc procedure?)", 5, 1}, {"(call/cc call/cc)", 6, 2}, {"(call/cc (lambda (k) 1))", 6, 3},
		{"(define k #f) (call/cc (lambda (c) (set! k c))) (k 1)", 13, 3},
		{"(dynamic-wind list list list)", 9, 0}, {"(dynamic-wind list (lambda () '(1)) list)", 10, 2}, {"(dynamic-wind list (lambda () (dynamic-wind list list list)) list)", 18, 1},
		{"(call/cc (lambda (k) (dynamic-wind list (lambda () (k 1)) list)))", 18, 4},
		{"(define k #f) (dynamic-wind list (lambda () (call/cc (lambda (c) (set! k c)))) list) (let ((j k)) (set! k #f) (if j (j 1) 0))", 32, 6},
	}
}

func TestP13P14Counts(t *testing.T) {
	for _, c := range counted() {
		if r := New().Run(full(c.text)); r.Verdict != api.Done || r.Steps != c.steps || r.Cells != c.cells {
			t.Errorf("P13, P14: %s: %+v, want %d steps, %d cells", c.text, r, c.steps, c.cells)
		}
	}
}

// What is just enough is enough, and more changes nothing; whatever is short ends the run, with all of it taken.
func TestP7JustEnough(t *testing.T) {
	for _, c := range counted() {
		want := New().Run(full(c.text))
		wantReport(t, "P7", limited(c.text, c.steps, c.cells), want)
		wantReport(t, "P7", limited(c.text, c.steps+1, c.cells), want)
		wantReport(t, "P7", limited(c.text, c.steps, c.cells+1), want)
		cells := 0
		for fuel := range c.steps {
			r := New().Run(limited(c.text, fuel, c.cells))
			if r.Verdict != api.NoFuel || r.Steps != fuel || r.Cells < cells || r.Cells > c.cells || r.Value != "" {
				t.Errorf("P7: %s with %d steps: %+v", c.text, fuel, r)
			}
			cells = r.Cells
		}
		steps := 0
		for quota := range c.cells {
			r := New().Run(limited(c.text, c.steps, quota))
			if r.Verdict != api.NoCells || r.Cells != quota || r.Steps < steps || r.Steps > c.steps || r.Value != "" {
				t.Errorf("P7: %s with %d cells: %+v", c.text, quota, r)
			}
			steps = r.Steps
		}
	}
}

// What ends a run, and what it has taken by then: so which of two things comes first.
func TestP13P14Order(t *testing.T) {
	for _, c := range []struct {
		text        string
		fuel, quota int
		want        api.Report
	}{
		{"7", 0, 0, api.Report{Verdict: api.NoFuel}},
		{" x", 0, 0, api.Report{Verdict: api.NoFuel, Place: 1}},
		{"x", 1, 0, api.Report{Verdict: api.Unbound, Steps: 1}},
		{"()", 0, 0, api.Report{Verdict: api.Malformed}},
		{"(lambda () 1)", 0, 0, api.Report{Verdict: api.NoFuel}},
		{"(lambda () 1)", 1, 0, api.Report{Verdict: api.NoCells, Steps: 1}},
		{"'(1 2 3)", 0, 2, api.Report{Verdict: api.NoFuel}},
		{"'(1 2 3)", 1, 2, api.Report{Verdict: api.NoCells, Steps: 1, Cells: 2}},
		{"(set! x y)", 9, 9, api.Report{Verdict: api.Unbound, Steps: 2}},
		{"(set! x '(1))", 9, 9, api.Report{Verdict: api.Unbound, Steps: 2, Cells: 1}},
		{"(set! x 1)", 1, 9, api.Report{Verdict: api.NoFuel, Steps: 1}},
		{"(define x x)", 9, 9, api.Report{Verdict: api.Unbound, Steps: 2}},
		{"(define x x)", 1, 9, api.Report{Verdict: api.NoFuel, Steps: 1}},
		{"(define x (set! x 1))", 9, 9, api.Report{Verdict: api.Unbound, Steps: 3}},
		{"(if x y z)", 9, 9, api.Report{Verdict: api.Unbound, Steps: 2}},
		{"(if #f (error 1) (error 2))", 9, 9, api.Report{Verdict: api.Raised, Value: "2", Steps: 6}},
		{"(begin '(1) x '(2))", 9, 9, api.Report{Verdict: api.Unbound, Steps: 3, Cells: 1}},
		{"(begin '(1) x '(2))", 2, 9, api.Report{Verdict: api.NoFuel, Steps: 2, Cells: 1}},
		{"(let () '(1) x)", 9, 9, api.Report{Verdict: api.Unbound, Steps: 5, Cells: 2}},
		{"(x '(1))", 9, 9, api.Report{Verdict: api.Unbound, Steps: 2}},
		{"(1 '(1) x '(2))", 9, 9, api.Report{Verdict: api.Unbound, Steps: 4, Cells: 1}},
		{"((error 1) (error 2))", 9, 9, api.Report{Verdict: api.Raised, Value: "1", Steps: 5}},
		{"(car (error 1) (error 2))", 9, 9, api.Report{Verdict: api.Raised, Value: "1", Steps: 6}},
		{"(let ((x (error 1)) (y (error 2))) 1)", 9, 9, api.Report{Verdict: api.Raised, Value: "1", Steps: 6, Cells: 1}},
		{"(1 2)", 9, 9, api.Report{Verdict: api.Mistyped, Steps: 4}},
		{"(1 2)", 4, 9, api.Report{Verdict: api.Mistyped, Steps: 4}},
		{"(1 2)", 3, 9, api.Report{Verdict: api.NoFuel, Steps: 3}},
		{"((lambda (x) x))", 3, 9, api.Report{Verdict: api.Miscalled, Steps: 3, Cells: 1}},
		{"((lambda (x) x))", 2, 9, api.Report{Verdict: api.NoFuel, Steps: 2, Cells: 1}},
		{"((lambda (x) x) 1 2)", 9, 1, api.Report{Verdict: api.Miscalled, Steps: 5, Cells: 1}},
		{"((lambda (x y) x) 1 2)", 9, 2, api.Report{Verdict: api.NoCells, Steps: 5, Cells: 2}},
		{"((lambda x x) 1 2)", 9, 3, api.Report{Verdict: api.NoCells, Steps: 5, Cells: 3}},
		{"((lambda (x) y) 1)", 4, 2, api.Report{Verdict: api.NoFuel, Steps: 4, Cells: 2}},
		{"(car)", 3, 0, api.Report{Verdict: api.Miscalled, Steps: 3}},
		{"(car)", 2, 0, api.Report{Verdict: api.NoFuel, Steps: 2}},
		{"(car 1)", 3, 0, api.Report{Verdict: api.NoFuel, Steps: 3}},
		{"(string-append 1 \"a\")", 9, 0, api.Report{Verdict: api.Mistyped, Steps: 5}},
		{"(cons 1 2)", 5, 0, api.Report{Verdict: api.NoCells, Steps: 5}},
		{"(cons 1 2)", 4, 0, api.Report{Verdict: api.NoFuel, Steps: 4}},
		{"(list 1 2 3)", 9, 2, api.Report{Verdict: api.NoCells, Steps: 6, Cells: 2}},
		{"(length 5)", 4, 0, api.Report{Verdict: api.Mistyped, Steps: 4}},
		{"(length (cons 1 (cons 2 3)))", 99, 9, api.Report{Verdict: api.Mistyped, Steps: 14, Cells: 2}},
		{"(length (cons 1 (cons 2 3)))", 13, 9, api.Report{Verdict: api.NoFuel, Steps: 13, Cells: 2}},
		{"(append 5 '(1))", 9, 9, api.Report{Verdict: api.Mistyped, Steps: 5, Cells: 1}},
		{"(append (cons 1 2) 3)", 99, 9, api.Report{Verdict: api.Mistyped, Steps: 10, Cells: 2}},
		{"(append (cons 1 2) 3)", 99, 1, api.Report{Verdict: api.NoCells, Steps: 10, Cells: 1}},
		{"(append (cons 1 2) 3)", 9, 1, api.Report{Verdict: api.NoFuel, Steps: 9, Cells: 1}},
		{"(append '(1 2) '())", 6, 9, api.Report{Verdict: api.NoFuel, Steps: 6, Cells: 3}},
		{"(append '(1 2) '())", 99, 3, api.Report{Verdict: api.NoCells, Steps: 7, Cells: 3}},
		{"(append '(1 2) '())", 99, 2, api.Report{Verdict: api.NoCells, Steps: 6, Cells: 2}},
		{"(apply 1 (cons 1 2))", 99, 9, api.Report{Verdict: api.Mistyped, Steps: 9, Cells: 1}},
		{"(apply car (cons 1 2))", 99, 9, api.Report{Verdict: api.Mistyped, Steps: 10, Cells: 1}},
		{"(apply car '(1 2))", 99, 9, api.Report{Verdict: api.Miscalled, Steps: 8, Cells: 2}},
		{"(apply car '(1 2))", 7, 9, api.Report{Verdict: api.NoFuel, Steps: 7, Cells: 2}},
		{"(apply car 5)", 5, 0, api.Report{Verdict: api.Mistyped, Steps: 5}},
		{"(equal? '(1 2) '(1 2))", 6, 9, api.Report{Verdict: api.NoFuel, Steps: 6, Cells: 4}},
		{"(error '(1))", 4, 1, api.Report{Verdict: api.Raised, Value: "(1)", Steps: 4, Cells: 1}},
		{"(error '(1))", 3, 1, api.Report{Verdict: api.NoFuel, Steps: 3, Cells: 1}},
		{"(number->string 1)", 4, 0, api.Report{Verdict: api.NoCells, Steps: 4}},
		{"(symbol->string 'a)", 4, 0, api.Report{Verdict: api.NoCells, Steps: 4}},
		{"(seal 1)", 4, 0, api.Report{Verdict: api.NoCells, Steps: 4}},
		{"(quotient 1 0)", 4, 0, api.Report{Verdict: api.NoFuel, Steps: 4}},
		{"(call/cc 1)", 4, 0, api.Report{Verdict: api.Mistyped, Steps: 4}},
		{"(call/cc list)", 4, 0, api.Report{Verdict: api.NoCells, Steps: 4}},
		{"(call/cc list)", 4, 1, api.Report{Verdict: api.NoFuel, Steps: 4, Cells: 1}},
		{"(call/cc (lambda (k) (k)))", 8, 3, api.Report{Verdict: api.Miscalled, Steps: 8, Cells: 3}},
		{"(call/cc (lambda (k) (k)))", 7, 3, api.Report{Verdict: api.NoFuel, Steps: 7, Cells: 3}},
		{"(dynamic-wind list 1 list)", 6, 0, api.Report{Verdict: api.Mistyped, Steps: 6}},
		{"(dynamic-wind list list list)", 6, 0, api.Report{Verdict: api.NoFuel, Steps: 6}},
		{"(dynamic-wind list list car)", 9, 0, api.Report{Verdict: api.Miscalled, Steps: 9}},
		{"(define (loop) (loop)) (loop)", 50, 1, api.Report{Verdict: api.NoFuel, Place: 23, Steps: 50, Cells: 1}},
		{"(define (grow x) (grow (list x x x)))(grow 1)", 20000, 5000, api.Report{Verdict: api.NoCells, Place: 37, Steps: 11255, Cells: 5000}},
	} {
		wantReport(t, "P7, P13, P14", limited(c.text, c.fuel, c.quota), c.want)
	}
}

// A program that keeps ever more to be done runs until its steps are out, like one that keeps nothing.
func TestP1LongRuns(t *testing.T) {
	for _, body := range []string{"(f)", "(not (f))", "(if (f) 1 2)", "(begin (f) 1)", "(set! x (f))", "(let () (f) 1)", "(apply f '())", "(list 1 (f))", "((f))"} {
		text := "(define x 1) (define (f) " + body + ") (f)"
		r := New().Run(full(text))
		if r.Verdict != api.NoFuel && r.Verdict != api.NoCells || r.Steps > api.MaxFuel || r.Cells > api.MaxQuota {
			t.Errorf("P1: %s: %+v", text, r)
		}
		if again := New().Run(full(text)); !reflect.DeepEqual(r, again) {
			t.Errorf("P2: %s: %+v, then %+v", text, r, again)
		}
	}
	for _, c := range []struct {
		text string
		want api.Report
	}{
		{"(define (f n) (if (= n 0) #t (if (f (- n 1)) #t #f))) (f 1000)", api.Report{Verdict: api.Done, Value: "#t", Steps: 16013, Cells: 1002}},
		{"(define (f n) (if (= n 0) 0 (+ 1 (f (- n 1))))) (f 1000)", api.Report{Verdict: api.Done, Value: "1000", Steps: 18013, Cells: 1002}},
		{"(define (f n x) (if (= n 0) (equal? x x) (f (- n 1) (cons x 1)))) (f 500 '())", api.Report{Verdict: api.Done, Value: "#t", Steps: 10018, Cells: 1503}},
	} {
		wantReport(t, "P1", full(c.text), c.want)
	}
}
