package pupil

import (
	"math"
	"reflect"
	"strings"
	"testing"

	"pupil/api"
)

// full grants a text all that can be counted.
func full(text string) api.Submission {
	return api.Submission{Text: text, Fuel: api.MaxFuel, Rewrites: api.MaxRewrites, Quota: api.MaxQuota, Room: api.MaxRoom}
}

func limited(text string, fuel, quota int) api.Submission {
	return api.Submission{Text: text, Fuel: fuel, Rewrites: api.MaxRewrites, Quota: quota}
}

func wantReport(t *testing.T, promise string, s api.Submission, want api.Report) {
	t.Helper()
	if got := New().Run(s); !reflect.DeepEqual(got, want) {
		t.Errorf("%s: Run(%+v)\n got %+v,\nwant %+v", promise, s, got, want)
	}
}

// wantValue wants a text to be done, with a value; what it takes is not looked at.
func wantValue(t *testing.T, promise, text, want string) {
	t.Helper()
	if r := New().Run(full(text)); r.Verdict != api.Done || r.Place != 0 || r.Value != want {
		t.Errorf("%s: %s gives %+v, want %s", promise, text, r, want)
	}
}

// wantVerdict wants a text to end otherwise, in the form that begins at a place.
func wantVerdict(t *testing.T, promise, text string, verdict, place int) {
	t.Helper()
	if r := New().Run(full(text)); r.Verdict != verdict || r.Place != place || r.Value != "" {
		t.Errorf("%s: %s gives %+v, want verdict %d at %d", promise, text, r, verdict, place)
	}
}

func TestP6Limits(t *testing.T) {
	for _, c := range []struct {
		name  string
		field func(*api.Submission) *int
		most  int
	}{
		{"Grants", func(s *api.Submission) *int { return &s.Grants }, 31},
		{"Fuel", func(s *api.Submission) *int { return &s.Fuel }, 20000},
		{"Rewrites", func(s *api.Submission) *int { return &s.Rewrites }, 500},
		{"Quota", func(s *api.Submission) *int { return &s.Quota }, 5000},
		{"Room", func(s *api.Submission) *int { return &s.Room }, 2000},
	} {
		for _, n := range []int{0, 1, c.most - 1, c.most} {
			s := full("")
			*c.field(&s) = n
			wantReport(t, "P6: "+c.name, s, api.Report{Verdict: api.Done})
		}
		for _, n := range []int{-1, c.most + 1, 2 * (c.most + 1), math.MinInt, math.MaxInt} {
			s := full("(error 1)")
			*c.field(&s) = n
			wantReport(t, "P6: "+c.name, s, api.Report{Verdict: api.Refused})
		}
	}
}

func TestP6Secrets(t *testing.T) {
	longest := strings.Repeat(" ", api.MaxText-1) + "1"
	for _, text := range []string{"7", "-7", "#t", `"a b"`, "a", "()", "(a (b) 1)", "'a", " 7 ;7 8", ";x\n(7)\n", longest} {
		s := full("'done")
		s.Secrets = []string{text}
		wantReport(t, "P6", s, api.Report{Verdict: api.Done, Value: "done", Steps: 1, Cells: 2})
	}
	word := strings.Repeat("x", api.MaxWord+1)
	for _, text := range []string{"", " ", ";7", "1 2", "()()", "(", ")", "'", `"`, "#x", "A", "7 )", word, longest + " ", nest("(", "", ")", api.MaxDepth+1)} {
		s := full("'done")
		s.Secrets = []string{"1", text}
		wantReport(t, "P6", s, api.Report{Verdict: api.Refused})
		s.Secrets = []string{text, "1"}
		wantReport(t, "P6", s, api.Report{Verdict: api.Refused})
	}
	s := full("")
	s.Secrets = strings.Fields("1 2 3 4 5 6 7 8")
	wantReport(t, "P6", s, api.Report{Verdict: api.Done, Cells: 16})
	s.Secrets = strings.Fields("1 2 3 4 5 6 7 8 9")
	wantReport(t, "P6", s, api.Report{Verdict: api.Refused})
}

func TestP6SecretsAreSealedFirst(t *testing.T) {
	sealed := func(text string, quota int) api.Submission {
		s := limited(text, 100, quota)
		s.Secrets = []string{"7", "(a b)"}
		return s
	}
	for quota := range 4 {
		wantReport(t, "P6", sealed(" ()", quota), api.Report{Verdict: api.NoCells, Cells: quota})
	}
	wantReport(t, "P6", sealed(" ()", 4), api.Report{Verdict: api.Malformed, Place: 1, Cells: 4})
	wantReport(t, "P6", sealed("secrets", 4), api.Report{Verdict: api.Done, Value: "(#<seal> #<seal>)", Steps: 1, Cells: 4})
	wantReport(t, "P6", sealed("(eq? (car secrets) (car (cdr secrets)))", 4), api.Report{Verdict: api.Done, Value: "#f", Steps: 14, Cells: 4})
	wantReport(t, "P6", full("secrets"), api.Report{Verdict: api.Done, Value: "()", Steps: 1})
}

func TestP6WhatComesFirst(t *testing.T) {
	refused := api.Report{Verdict: api.Refused}
	s := limited("(a", -1, 0)
	wantReport(t, "P6: Refused ahead of Unread", s, refused)
	s = limited("(a", 0, 0)
	s.Secrets = []string{""}
	wantReport(t, "P6: Refused ahead of Unread", s, refused)
	s.Secrets = []string{"1"}
	wantReport(t, "P6: Unread ahead of the secrets", s, api.Report{Verdict: api.Unread, Reason: api.ErrEnd, Place: 2})
	wantReport(t, "P6: Unread ahead of all forms", full("(error 1) )"), api.Report{Verdict: api.Unread, Reason: api.ErrSyntax, Place: 10})
	wantReport(t, "P6: a form ahead of the next one", full("(error 1) ()"), api.Report{Verdict: api.Raised, Value: "1", Steps: 4})
	wantReport(t, "P6: expanding ahead of evaluating", full("7 (begin (error 1) ())"), api.Report{Verdict: api.Malformed, Place: 2, Steps: 1})
}

func TestP6Unread(t *testing.T) {
	for _, c := range []struct {
		text   string
		reason api.Errno
		place  int
	}{
		{strings.Repeat(" ", api.MaxText+1), api.ErrLong, 0},
		{"(a\n#x)", api.ErrSyntax, 3},
		{"1 A", api.ErrSyntax, 2},
		{"1 \"a", api.ErrEnd, 4},
		{"1 '", api.ErrEnd, 3},
		{"(+ 1 9223372036854775808)", api.ErrMany, 5},
		{"1 " + nest("(", "", ")", api.MaxDepth+1), api.ErrMany, 2 + api.MaxDepth},
	} {
		wantReport(t, "P6", full(c.text), api.Report{Verdict: api.Unread, Reason: c.reason, Place: c.place})
	}
}

func TestP6FormsOneAfterTheOther(t *testing.T) {
	for _, c := range []struct {
		text string
		want api.Report
	}{
		{"", api.Report{Verdict: api.Done}},
		{" ;x\n", api.Report{Verdict: api.Done}},
		{" 7", api.Report{Verdict: api.Done, Value: "7", Steps: 1}},
		{"1 2 3", api.Report{Verdict: api.Done, Value: "3", Steps: 3}},
		{"1 2 '()", api.Report{Verdict: api.Done, Value: "()", Steps: 3}},
		{"1 (define x 2)", api.Report{Verdict: api.Done, Value: "#<nothing>", Steps: 3}},
		{"(define x 1) (define (f) x) (set! x 2) (f)", api.Report{Verdict: api.Done, Value: "2", Steps: 10, Cells: 1}},
		{" 1 ;c\n 'x y", api.Report{Verdict: api.Unbound, Place: 10, Steps: 3}},
		{"'a 'b ('c)", api.Report{Verdict: api.Mistyped, Place: 6, Steps: 5}},
		{"(define (f) (g)) ;x\n(f)", api.Report{Verdict: api.Unbound, Place: 20, Steps: 7, Cells: 1}},
	} {
		wantReport(t, "P6", full(c.text), c.want)
	}
}

func TestP6StartOfAValue(t *testing.T) {
	doubled := "(define (d n x) (if (= n 0) x (d (- n 1) (cons x x))))"
	if r := New().Run(full(doubled + "(d 200 'a)")); r.Verdict != api.Done || r.Place != 0 || r.Value[:190] != strings.Repeat("(", 190) || len(r.Value) != api.MaxText {
		t.Errorf("P6: a value too long to be written: verdict %d, %d bytes", r.Verdict, len(r.Value))
	}
	if r := New().Run(full(doubled + "(error (d 200 'a))")); r.Verdict != api.Raised || r.Place != 54 || len(r.Value) != api.MaxText {
		t.Errorf("P14: a value too long to be written is raised: verdict %d at %d, %d bytes", r.Verdict, r.Place, len(r.Value))
	}
	whole := `"` + strings.Repeat("a", api.MaxText-2) + `"`
	wantValue(t, "P6", whole, whole)
	half := `(define s "` + strings.Repeat("a", api.MaxText/2-1) + `")`
	for _, c := range []struct{ text, want string }{
		{`(string-append s s)`, whole},
		{`(string-append s (string-append s "b"))`, whole[:api.MaxText-1] + "b"},
		{`(string-append s (string-append s "bc"))`, whole[:api.MaxText-1] + "b"},
	} {
		wantValue(t, "P6", half+c.text, c.want)
	}
}
