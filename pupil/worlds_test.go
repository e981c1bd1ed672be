package pupil

import (
	"math/rand"
	"reflect"
	"slices"
	"strings"
	"sync"
	"testing"

	"pupil/api"
)

// checkReport holds a report against what P1, P6 and P7 say of every submission that is not refused.
func checkReport(t *testing.T, s api.Submission, r api.Report) {
	t.Helper()
	done, raised, unread := r.Verdict == api.Done, r.Verdict == api.Raised, r.Verdict == api.Unread
	switch {
	case r.Verdict < api.Done || r.Verdict > api.Raised || r.Verdict == api.Refused,
		r.Place < 0 || r.Place > len(s.Text) || done && r.Place != 0,
		unread != (r.Reason != api.OK),
		r.Value != "" && !done && !raised || len(r.Value) > api.MaxText,
		r.Steps < 0 || r.Steps > s.Fuel || r.Verdict == api.NoFuel && r.Steps != s.Fuel,
		r.Cells < 0 || r.Cells > s.Quota || r.Verdict == api.NoCells && r.Cells != s.Quota,
		r.Rewrites < 0 || r.Rewrites > s.Rewrites || r.Verdict == api.NoRewrite && r.Rewrites != s.Rewrites:
		t.Errorf("P1, P6, P7: Run(%+v) = %+v", s, r)
	}
}

// soup is a text of words that stand in programs, in any order.
func soup(dice *rand.Rand) string {
	words := strings.Fields(`( ( ( ( ) ) ) ) ' x y f 0 1 -7 #t #f "s" quote if define set! lambda let begin define-syntax ... _ . + - * quotient = cons car cdr list length append equal? apply error seal secrets out call/cc dynamic-wind`)
	return anyOf(words, dice.Intn(40), dice)
}

func anyOf(words []string, count int, dice *rand.Rand) string {
	var text strings.Builder
	for range count {
		text.WriteString(words[dice.Intn(len(words))] + " ")
	}
	return text.String()
}

// macroSoup is a macro with any rules, and uses of it.
func macroSoup(dice *rand.Rand) string {
	words := strings.Fields(`( ( ( ) ) ) ... ... x y z _ l m 1 #t "s" if list '`)
	some := func(most int) string { return closed(anyOf(words, dice.Intn(most), dice)) }
	text := "(define-syntax m (syntax-rules (l) "
	for range 1 + dice.Intn(3) {
		text += "((_ " + some(8) + ") (list " + some(12) + "))"
	}
	text += "((_ x ...) '(x ...))))"
	for range 1 + dice.Intn(3) {
		text += "(m " + some(12) + ")"
	}
	return text
}

// closed puts brackets where soup lacks them, so that most of it is read.
func closed(text string) string {
	depth := 0
	var out strings.Builder
	for _, c := range text {
		switch {
		case c == '(':
			depth++
		case c == ')' && depth == 0:
			continue
		case c == ')':
			depth--
		}
		out.WriteRune(c)
	}
	return out.String() + strings.Repeat(")", depth)
}

func TestP1AnyText(t *testing.T) {
	dice := rand.New(rand.NewSource(1))
	for range 20000 {
		text := soup(dice)
		if dice.Intn(10) > 0 {
			text = closed(text)
		}
		checkRun(t, text, dice)
		checkRun(t, macroSoup(dice), dice)
	}
}

// checkRun runs a text with any limits.
func checkRun(t *testing.T, text string, dice *rand.Rand) {
	t.Helper()
	s := api.Submission{Text: text, Fuel: dice.Intn(200), Rewrites: dice.Intn(9), Quota: dice.Intn(50), Grants: dice.Intn(32)}
	r := New().Run(s)
	checkReport(t, s, r)
	// P20: whatever was not short of something comes out the same with more.
	if r.Verdict != api.NoFuel && r.Verdict != api.NoCells && r.Verdict != api.NoRewrite {
		more := s
		more.Fuel, more.Rewrites, more.Quota = api.MaxFuel, api.MaxRewrites, api.MaxQuota
		wantReport(t, "P20", more, r)
	}
}

func TestP1EveryShortProgram(t *testing.T) {
	shortTexts("(1x')", 6, func(text string) {
		s := full(text)
		checkReport(t, s, New().Run(s))
	})
}

func manySubmissions() []api.Submission {
	all := []api.Submission{{}, {Grants: -1}, {Text: "(", Fuel: 5}, {Secrets: []string{"7", "(a)"}, Text: "secrets", Fuel: 5, Quota: 4}}
	for _, text := range []string{
		"(define car 1) (define x 2) x", "car", "x", "(set! cdr car) (cdr '(1 2))", "(cdr '(1 2))", "(define (loop) (loop)) (loop)", "(loop)", "(error '(1 2))", "(if)",
		"(define-syntax car (syntax-rules () ((_ x) 'macro))) (car 1)", "(car 1)", "(define k #f) (call/cc (lambda (c) (set! k c))) k", "(dynamic-wind list k list)", "(dynamic-wind list (lambda () (error 1)) list)", "(call/cc (lambda (k) (k 1)))",
		"(define secrets 1) secrets", "secrets", "(eq? (seal 1) (seal 1))", "(define out 1) out", "out", "'(1 2 3)",
	} {
		all = append(all, full(text))
	}
	return all
}

func TestP2RunsLearnNothingOfEachOther(t *testing.T) {
	submissions := manySubmissions()
	want := make([]api.Report, len(submissions))
	for i, s := range submissions {
		want[i] = New().Run(s)
	}
	one, other := New(), New()
	for i, first := range submissions {
		for j, second := range submissions {
			a, b, c := one.Run(first), one.Run(second), other.Run(second)
			if !reflect.DeepEqual(a, want[i]) || !reflect.DeepEqual(b, want[j]) || !reflect.DeepEqual(c, want[j]) {
				t.Errorf("P2: %q, then %q: %+v, %+v, and with another grader %+v, want %+v, %+v", first.Text, second.Text, a, b, c, want[i], want[j])
			}
		}
	}
	var workers sync.WaitGroup
	for range 8 {
		workers.Go(func() {
			for i, s := range submissions {
				if got := one.Run(s); !reflect.DeepEqual(got, want[i]) {
					t.Errorf("P2: %q beside others: %+v, want %+v", s.Text, got, want[i])
				}
			}
		})
	}
	workers.Wait()
}

// What is handed in stays as it is, and so does what stands behind it in the same memory.
func TestP2NothingIsWrittenInto(t *testing.T) {
	texts := func() []string { return []string{"7", "(a b)", "behind", "it"} }
	numbers := func() []int { return []int{1, -2, 3, 4} }
	secrets, lines, ticks, draws := texts(), texts(), numbers(), numbers()
	s := full("(list secrets (car secrets))")
	s.Secrets, s.Lines, s.Ticks, s.Draws = secrets[:2], lines[:2], ticks[:2], draws[:2]
	if r := New().Run(s); r.Value != "((#<seal> #<seal>) #<seal>)" {
		t.Errorf("P2: %+v", r)
	}
	if !slices.Equal(secrets, texts()) || !slices.Equal(lines, texts()) || !slices.Equal(ticks, numbers()) || !slices.Equal(draws, numbers()) {
		t.Errorf("P2: handed in, and now: %v, %v, %v, %v", secrets, lines, ticks, draws)
	}
}

func TestP19SecretsAreNotTold(t *testing.T) {
	for _, text := range []string{"secrets", "(equal? (car secrets) (car (cdr secrets)))", "(error secrets)", "(length secrets)", "(eq? (car secrets) 7)", "(list (seal? (car secrets)) (integer? (car secrets)) (pair? (car secrets)))", "(+ 1 (car secrets))", "(car (car secrets))", "((car secrets))"} {
		s := full(text)
		s.Secrets = []string{"7", "7"}
		want := New().Run(s)
		for _, secret := range []string{"8", "#f", "()", "(a (b c) d)", `"text"`, "'x"} {
			s.Secrets = []string{secret, "7"}
			wantReport(t, "P19", s, want)
			s.Secrets = []string{"7", secret}
			wantReport(t, "P19", s, want)
		}
	}
}

func TestExamples(t *testing.T) {
	wantReport(t, "P13", limited("(+ 1 2)", 100, 100), api.Report{Verdict: api.Done, Value: "3", Steps: 5})
	wantValue(t, "P14", "(define (f x) (if (= x 0) 1 (* x (f (- x 1))))) (f 5)", "120")
	wantValue(t, "P17", `'(1 "a" (b . c))`, `(1 "a" (b . c))`)
	wantValue(t, "P17", "'(a #t -007)", "(a #t -7)")
	wantVerdict(t, "P14", "(car '())", api.Mistyped, 0)
	wantVerdict(t, "P13", "(f)", api.Unbound, 0)
	wantVerdict(t, "P14", "((lambda (x) x))", api.Miscalled, 0)
	wantVerdict(t, "P14", "(quotient 1 0)", api.Overflow, 0)
	wantVerdict(t, "P9", "(if)", api.Malformed, 0)
	wantReport(t, "P7", limited("(define (loop) (loop)) (loop)", 50, 100), api.Report{Verdict: api.NoFuel, Place: 23, Steps: 50, Cells: 1})
}
