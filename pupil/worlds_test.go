package pupil

import (
	"math/rand"
	"reflect"
	"runtime"
	"slices"
	"strings"
	"sync"
	"testing"
	"time"

	"pupil/api"
)

// checkReport holds a report against what P1, P6 and P7 say of every submission that is not refused.
func checkReport(t *testing.T, s api.Submission, r api.Report) {
	t.Helper()
	done, raised, unread := r.Verdict == api.Done, r.Verdict == api.Raised, r.Verdict == api.Unread
	switch {
	case r.Verdict < api.Done || r.Verdict > api.Raised || r.Verdict == api.Refused,
		r.Place < 0 || r.Place > len(s.Text) || done && r.Place != 0,
		unread != (r.Reason != api.OK),
		r.Value != "" && !done && !raised || len(r.Value) > api.MaxText,
		r.Steps < 0 || r.Steps > s.Fuel || r.Verdict == api.NoFuel && r.Steps != s.Fuel,
		r.Cells < 0 || r.Cells > s.Quota || r.Verdict == api.NoCells && r.Cells != s.Quota,
		r.Rewrites < 0 || r.Rewrites > s.Rewrites || r.Verdict == api.NoRewrite && r.Rewrites != s.Rewrites,
		len(r.Output) > s.Room || r.Verdict == api.NoRoom && len(r.Output) != s.Room:
		t.Errorf("P1, P6, P7: Run(%+v) = %+v", s, r)
	}
	checkEvents(t, s, r)
}

// checkEvents holds the events of a report against what was granted, and against its output: of that only the end may be without an event, if the run ended in the midst of a write.
func checkEvents(t *testing.T, s api.Submission, r api.Report) {
	t.Helper()
	told := ""
	for _, e := range r.Events {
		if e.Kind&s.Grants == 0 || e.Kind&(e.Kind-1) != 0 {
			t.Errorf("P18: Run(%+v) = %+v: event %+v", s, r, e)
		}
		if e.Kind == api.Out {
			told += e.Text
		}
	}
	midst := r.Verdict == api.NoFuel || r.Verdict == api.NoRoom
	if !strings.HasPrefix(r.Output, told) || !midst && r.Output != told {
		t.Errorf("P18: Run(%+v) = %+v: events of %q", s, r, told)
	}
}

// soup is a text of words that stand in programs, in any order.
func soup(dice *rand.Rand) string {
	words := strings.Fields(`( ( ( ( ) ) ) ) ' x y f 0 1 -7 #t #f "s" quote if define set! lambda let begin define-syntax ... _ . + - * quotient = cons car cdr list length append equal? apply error seal secrets call/cc dynamic-wind out in clock dice key write read-line tick roll unseal`)
	return anyOf(words, dice.Intn(40), dice)
}

func anyOf(words []string, count int, dice *rand.Rand) string {
	var text strings.Builder
	for range count {
		text.WriteString(words[dice.Intn(len(words))] + " ")
	}
	return text.String()
}

// macroSoup is a macro with any rules, and uses of it.
func macroSoup(dice *rand.Rand) string {
	words := strings.Fields(`( ( ( ) ) ) ... ... x y z _ l m 1 #t "s" if list '`)
	some := func(most int) string { return closed(anyOf(words, dice.Intn(most), dice)) }
	text := "(define-syntax m (syntax-rules (l) "
	for range 1 + dice.Intn(3) {
		text += "((_ " + some(8) + ") (list " + some(12) + "))"
	}
	text += "((_ x ...) '(x ...))))"
	for range 1 + dice.Intn(3) {
		text += "(m " + some(12) + ")"
	}
	return text
}

// closed puts brackets where soup lacks them, so that most of it is read.
func closed(text string) string {
	depth := 0
	var out strings.Builder
	for _, c := range text {
		switch {
		case c == '(':
			depth++
		case c == ')' && depth == 0:
			continue
		case c == ')':
			depth--
		}
		out.WriteRune(c)
	}
	return out.String() + strings.Repeat(")", depth)
}

func TestP1AnyText(t *testing.T) {
	dice := rand.New(rand.NewSource(1))
	for range 20000 {
		text := soup(dice)
		if dice.Intn(10) > 0 {
			text = closed(text)
		}
		checkRun(t, text, dice)
		checkRun(t, macroSoup(dice), dice)
	}
}

// checkRun runs a text with any limits and any world.
func checkRun(t *testing.T, text string, dice *rand.Rand) {
	t.Helper()
	s := api.Submission{Text: text, Fuel: dice.Intn(200), Rewrites: dice.Intn(9), Quota: dice.Intn(50), Room: dice.Intn(30), Grants: dice.Intn(32)}
	s.Lines, s.Ticks, s.Draws, s.Secrets = []string{"one", "two"}[dice.Intn(3):], []int{1, -1}, []int{-1, 7}, []string{"7", "(a b)"}[dice.Intn(3):]
	r := New().Run(s)
	checkReport(t, s, r)
	if !isShort(r.Verdict) {
		more := s
		more.Fuel, more.Rewrites, more.Quota, more.Room = api.MaxFuel, api.MaxRewrites, api.MaxQuota, api.MaxRoom
		wantReport(t, "P20", more, r)
	}
	if s.Grants&api.Unseal == 0 {
		for i := range s.Secrets {
			s.Secrets[i] = "(another one)"
		}
		wantReport(t, "P19", s, r)
	}
}

// isShort tells whether a run ended because there was too little of something.
func isShort(verdict int) bool { return verdict >= api.NoFuel && verdict <= api.NoRoom }

func TestP1EveryShortProgram(t *testing.T) {
	shortTexts("(1x')", 6, func(text string) {
		s := full(text)
		checkReport(t, s, New().Run(s))
	})
}

func manySubmissions() []api.Submission {
	all := []api.Submission{{}, {Grants: -1}, {Text: "(", Fuel: 5}, {Secrets: []string{"7", "(a)"}, Text: "secrets", Fuel: 5, Quota: 4}}
	for _, text := range []string{
		"(define car 1) (define x 2) x", "car", "x", "(set! cdr car) (cdr '(1 2))", "(cdr '(1 2))", "(define (loop) (loop)) (loop)", "(loop)", "(error '(1 2))", "(if)",
		"(define-syntax car (syntax-rules () ((_ x) 'macro))) (car 1)", "(car 1)", "(define k #f) (call/cc (lambda (c) (set! k c))) k", "(dynamic-wind list k list)", "(dynamic-wind list (lambda () (error 1)) list)", "(call/cc (lambda (k) (k 1)))",
		"(define secrets 1) secrets", "secrets", "(eq? (seal 1) (seal 1))", "(define out 1) out", "out", "'(1 2 3)",
		"(write out '(1 2)) (write out 3)", "(write out (read-line in))", "(list (read-line in) (tick clock) (roll dice 9) (unseal key (car secrets)))", "(define write car) (write out)", "(roll dice 0)", "(tick in)", "(define (f) (write out 1) (f)) (f)", "(define (f) (read-line in) (f)) (f)",
	} {
		all = append(all, full(text), worldly(text, 31))
	}
	return all
}

func TestP2RunsLearnNothingOfEachOther(t *testing.T) {
	submissions := manySubmissions()
	want := make([]api.Report, len(submissions))
	for i, s := range submissions {
		want[i] = New().Run(s)
	}
	one, other := New(), New()
	for i, first := range submissions {
		for j, second := range submissions {
			a, b, c := one.Run(first), one.Run(second), other.Run(second)
			if !reflect.DeepEqual(a, want[i]) || !reflect.DeepEqual(b, want[j]) || !reflect.DeepEqual(c, want[j]) {
				t.Errorf("P2: %q, then %q: %+v, %+v, and with another grader %+v, want %+v, %+v", first.Text, second.Text, a, b, c, want[i], want[j])
			}
		}
	}
	var workers sync.WaitGroup
	for range 8 {
		workers.Go(func() {
			for i, s := range submissions {
				if got := one.Run(s); !reflect.DeepEqual(got, want[i]) {
					t.Errorf("P2: %q beside others: %+v, want %+v", s.Text, got, want[i])
				}
			}
		})
	}
	workers.Wait()
}

// What is handed in stays as it is, and so does what stands behind it in the same memory.
func TestP2NothingIsWrittenInto(t *testing.T) {
	texts := func() []string { return []string{"7", "(a b)", "behind", "it"} }
	numbers := func() []int { return []int{1, -2, 3, 4} }
	secrets, lines, ticks, draws := texts(), texts(), numbers(), numbers()
	three := func(call string) string { return call + call + call }
	s := worldly("(list secrets "+three("(read-line in)")+three("(tick clock)")+three("(roll dice 9)")+three("(unseal key (car secrets))")+")", 31)
	s.Secrets, s.Lines, s.Ticks, s.Draws = secrets[:2], lines[:2], ticks[:2], draws[:2]
	if r := New().Run(s); r.Value != `((#<seal> #<seal>) "7" "(a b)" #f 1 -2 0 1 1 0 7 7 7)` {
		t.Errorf("P2: %+v", r)
	}
	if !slices.Equal(secrets, texts()) || !slices.Equal(lines, texts()) || !slices.Equal(ticks, numbers()) || !slices.Equal(draws, numbers()) {
		t.Errorf("P2: handed in, and now: %v, %v, %v, %v", secrets, lines, ticks, draws)
	}
}

// Whoever writes into events that came out, and into the spare room behind them, changes no others.
func TestP2EventsAreNewMemory(t *testing.T) {
	g := New()
	for count := range 20 {
		s := worldly(strings.Repeat("(write out 1)", count), api.Out)
		first, second := g.Run(s), g.Run(s)
		want := slices.Clone(second.Events)
		spoilt := first.Events[:cap(first.Events)]
		for i := range spoilt {
			spoilt[i] = api.Event{Kind: 99, Number: 99, Text: "spoilt"}
		}
		if third := g.Run(s); len(want) != count || !slices.Equal(second.Events, want) || !slices.Equal(third.Events, want) {
			t.Errorf("P2: events of %d writes, when others are spoilt: %+v, %+v, want %+v", count, second.Events, third.Events, want)
		}
	}
}

// No goroutine is left behind. One that has just closed its channel may still be on its way out: so it is given time.
func TestP1NoGoroutineIsLeft(t *testing.T) {
	before := runtime.NumGoroutine()
	for range 50 {
		for _, s := range manySubmissions() {
			New().Run(s)
		}
	}
	for range 1000 {
		if runtime.NumGoroutine() <= before {
			return
		}
		time.Sleep(time.Millisecond)
	}
	t.Errorf("P1: %d goroutines, and %d ahead of all runs", runtime.NumGoroutine(), before)
}

// Submissions that differ in their secrets alone, at every grant but Unseal.
func TestP19SecretsAreNotTold(t *testing.T) {
	for _, text := range []string{
		"secrets", "(equal? (car secrets) (car (cdr secrets)))", "(error secrets)", "(length secrets)", "(eq? (car secrets) 7)", "(list (seal? (car secrets)) (integer? (car secrets)) (pair? (car secrets)))", "(+ 1 (car secrets))", "(car (car secrets))", "((car secrets))",
		"(unseal key (car secrets))", "(unseal key (car (cdr secrets)))", "(unseal out (car secrets))", "(unseal (car secrets) (car secrets))", "(apply unseal (cons key secrets))", "(unseal key (seal (car secrets)))", "(unseal #t (car secrets))", "(define key in) (unseal key (car secrets))", "(let ((key dice)) (unseal key (car secrets)))",
		"(write out secrets)", "(write out (seal (car secrets)))", "(write (car secrets) 1)", "(roll dice (car secrets))", "(call/cc (car secrets))", "(apply list secrets)", "(append secrets (car secrets))", "(string-length (car secrets))",
		"(define-syntax m (syntax-rules () ((_ 7) 1) ((_ (x ...)) 2) ((_ x) 3))) (m secrets)",
	} {
		for grants := range int(api.Unseal) {
			s := worldly(text, grants)
			s.Secrets = []string{"7", "7"}
			want := New().Run(s)
			for _, secret := range []string{"8", "#f", "()", "(a (b c) d)", `"text"`, "'x", strings.Repeat(" ", api.MaxText-1) + "1"} {
				s.Secrets = []string{secret, "7"}
				wantReport(t, "P19", s, want)
				s.Secrets = []string{"7", secret}
				wantReport(t, "P19", s, want)
			}
		}
	}
}

// With Unseal a report does hang on them; and without it on how many there are.
func TestP19WhatIsTold(t *testing.T) {
	for _, c := range []struct {
		grants  int
		secrets []string
		want    api.Report
	}{
		{api.Unseal, []string{"7"}, api.Report{Verdict: api.Done, Value: "7", Steps: 8, Cells: 2, Events: []api.Event{{Kind: api.Unseal}}}},
		{api.Unseal, []string{"(8 9)"}, api.Report{Verdict: api.Done, Value: "(8 9)", Steps: 8, Cells: 4, Events: []api.Event{{Kind: api.Unseal}}}},
		{0, []string{"7"}, api.Report{Verdict: api.Denied, Steps: 8, Cells: 2}},
		{0, []string{"7", "8"}, api.Report{Verdict: api.Denied, Steps: 8, Cells: 4}},
		{0, nil, api.Report{Verdict: api.Mistyped, Steps: 7}},
	} {
		s := limited("(unseal key (car secrets))", 100, 100)
		s.Grants, s.Secrets = c.grants, c.secrets
		wantReport(t, "P19", s, c.want)
	}
}

// limits are the four that are granted by number, each with its verdict and with how much of it a report tells.
func limits() []struct {
	verdict, most int
	field         func(*api.Submission) *int
	taken         func(api.Report) int
} {
	return []struct {
		verdict, most int
		field         func(*api.Submission) *int
		taken         func(api.Report) int
	}{
		{api.NoFuel, api.MaxFuel, func(s *api.Submission) *int { return &s.Fuel }, func(r api.Report) int { return r.Steps }},
		{api.NoCells, api.MaxQuota, func(s *api.Submission) *int { return &s.Quota }, func(r api.Report) int { return r.Cells }},
		{api.NoRewrite, api.MaxRewrites, func(s *api.Submission) *int { return &s.Rewrites }, func(r api.Report) int { return r.Rewrites }},
		{api.NoRoom, api.MaxRoom, func(s *api.Submission) *int { return &s.Room }, func(r api.Report) int { return len(r.Output) }},
	}
}

// Each limit by itself: a greater one changes nothing, and one that is short by one ends the run with that limit met.
func TestP20GreaterLimits(t *testing.T) {
	for _, text := range []string{
		"", "7", "(write out '(1 2)) (write out (list 1 2))", "(write out (read-line in)) (list (tick clock) (roll dice 6))", "(unseal key (car secrets)) (write out (unseal key (car secrets)))",
		myOr + "(write out (my-or #f (read-line in)))", "(define (f n) (if (= n 0) '() (begin (write out n) (cons n (f (- n 1)))))) (f 9)",
		"(write out 'a) (car 1)", "(write out '(1)) (error '(2))", "(write out 1) (write in 1)", "(write out 'ab) x", "(write out 1) (if)", "(write out 1) (roll dice 0)", "(write out 1) (tick)",
		myOr + "(write out (my-or (list 1) 2)) (my-or . )", "(call/cc (lambda (k) (dynamic-wind (lambda () (write out 1)) (lambda () (k (read-line in))) (lambda () (write out 2)))))",
	} {
		s := worldly(text, 31)
		want := New().Run(s)
		if isShort(want.Verdict) {
			t.Errorf("P20: %s does not come to its end: %+v", text, want)
		}
		for _, l := range limits() {
			*l.field(&s) = l.taken(want)
		}
		wantReport(t, "P20: just enough", s, want)
		for _, l := range limits() {
			for _, limit := range []int{l.taken(want) + 1, 2 * l.taken(want), l.most} {
				more := s
				*l.field(&more) = limit
				wantReport(t, "P20", more, want)
			}
			for short := range l.taken(want) {
				less := s
				*l.field(&less) = short
				if r := New().Run(less); r.Verdict != l.verdict || l.taken(r) != short || !strings.HasPrefix(want.Output, r.Output) || len(r.Events) > len(want.Events) || !slices.Equal(r.Events, want.Events[:len(r.Events)]) {
					t.Errorf("P7: %s with %d, of %d: %+v, want verdict %d", text, short, l.taken(want), r, l.verdict)
				}
			}
		}
	}
}

func TestExamples(t *testing.T) {
	wantReport(t, "P13", limited("(+ 1 2)", 100, 100), api.Report{Verdict: api.Done, Value: "3", Steps: 5})
	wantValue(t, "P14", "(define (f x) (if (= x 0) 1 (* x (f (- x 1))))) (f 5)", "120")
	wantValue(t, "P17", `'(1 "a" (b . c))`, `(1 "a" (b . c))`)
	wantValue(t, "P17", "'(a #t -007)", "(a #t -7)")
	wantVerdict(t, "P14", "(car '())", api.Mistyped, 0)
	wantVerdict(t, "P13", "(f)", api.Unbound, 0)
	wantVerdict(t, "P14", "((lambda (x) x))", api.Miscalled, 0)
	wantVerdict(t, "P14", "(quotient 1 0)", api.Overflow, 0)
	wantVerdict(t, "P9", "(if)", api.Malformed, 0)
	wantReport(t, "P7", limited("(define (loop) (loop)) (loop)", 50, 100), api.Report{Verdict: api.NoFuel, Place: 23, Steps: 50, Cells: 1})
	s := full("(write out '(1 2))")
	wantReport(t, "P18", s, api.Report{Verdict: api.Denied, Steps: 5, Cells: 2})
	s.Grants = api.Out
	wantReport(t, "P18", s, api.Report{Verdict: api.Done, Value: "#<nothing>", Output: "(1 2)", Steps: 10, Cells: 2, Events: []api.Event{{Kind: api.Out, Text: "(1 2)"}}})
	s = full("secrets")
	s.Secrets = []string{"7", "(a)"}
	wantReport(t, "P18", s, api.Report{Verdict: api.Done, Value: "(#<seal> #<seal>)", Steps: 1, Cells: 4})
	s = full("(unseal key (car secrets))")
	s.Grants, s.Secrets = api.Unseal, []string{"(1 x)"}
	wantReport(t, "P18", s, api.Report{Verdict: api.Done, Value: "(1 x)", Steps: 8, Cells: 4, Events: []api.Event{{Kind: api.Unseal}}})
}
