package pupil

import (
	"math"
	"math/rand"
	"slices"
	"strconv"
	"strings"
	"testing"

	"pupil/api"
)

// worldly grants a text a world with something of each kind in it.
func worldly(text string, grants int) api.Submission {
	s := full(text)
	s.Grants = grants
	s.Lines, s.Ticks, s.Draws, s.Secrets = []string{"one", "", "(x)"}, []int{5, -7}, []int{10, -1, -8, math.MinInt, math.MaxInt}, []string{"(1 x)", "7"}
	return s
}

// wantEvents wants a text to be done, with a value and events, when all is granted; what it takes is not looked at.
func wantEvents(t *testing.T, text, value string, events ...api.Event) {
	t.Helper()
	s := worldly(text, 31)
	r := New().Run(s)
	checkReport(t, s, r)
	if r.Verdict != api.Done || r.Value != value || !slices.Equal(r.Events, events) {
		t.Errorf("P18: %s gives %+v, want %s, %+v", text, r, value, events)
	}
}

func said(text string) api.Event { return api.Event{Kind: api.Out, Text: text} }
func readLine(count int, text string) api.Event {
	return api.Event{Kind: api.In, Number: count, Text: text}
}
func ticked(now int) api.Event    { return api.Event{Kind: api.Clock, Number: now} }
func rolled(number int) api.Event { return api.Event{Kind: api.Dice, Number: number} }

func TestP18Grants(t *testing.T) {
	names := []string{"out", "in", "clock", "dice", "key"}
	for grants := range 32 {
		for i, name := range names {
			want := api.Report{Verdict: api.Done, Value: "#f", Steps: 1, Cells: 4}
			if grants>>i&1 == 1 {
				want.Value = "#<grant>"
			}
			wantReport(t, "P18", worldly(name, grants), want)
		}
	}
	for _, a := range names {
		for _, b := range names {
			want := "#f"
			if a == b {
				want = "#t"
			}
			wantEvents(t, "(eq? "+a+" "+b+")", want)
			wantEvents(t, "(equal? (list "+a+") (list "+b+"))", want)
		}
		wantEvents(t, "(define x "+a+") (define "+a+" 5) (list x "+a+")", "(#<grant> 5)")
		wantEvents(t, "(list (procedure? "+a+") (seal? "+a+") (boolean? "+a+") (not "+a+"))", "(#f #f #f #f)")
	}
}

// Each primitive, with each kind of arguments, when its grant is there and when all others are: the grant comes ahead of other kinds, and what is wrong leaves no event.
func TestP18Denied(t *testing.T) {
	all := samples()
	for _, p := range grantPrimitives() {
		all = append(all, sample{p[1], p[1], 1, 0})
	}
	for i, p := range grantPrimitives() {
		for _, grants := range []int{31, 31 - 1<<i} {
			everyCall(all, len(p)-1, nil, func(arguments []sample) {
				text, want := "("+p[0], api.Report{Steps: 3, Cells: 4}
				for _, a := range arguments {
					text += " " + a.text
					want.Steps += a.steps
					want.Cells += a.cells
				}
				s := worldly(text+")", grants)
				switch {
				case arguments[0].text != p[1] || grants != 31:
					want.Verdict = api.Denied
				case len(p) == 3 && !arguments[1].is(p[2]):
					want.Verdict = api.Mistyped
				default:
					if r := New().Run(s); r.Verdict != api.Done || len(r.Events) != 1 || r.Events[0].Kind != 1<<i {
						t.Errorf("P18: %s gives %+v, want it done", s.Text, r)
					}
					return
				}
				wantReport(t, "P18", s, want)
			})
		}
	}
}

// A grant is what counts, not the variable that it is in.
func TestP18GrantsAreValues(t *testing.T) {
	wantEvents(t, "(define x out) (define out #f) (write x 1)", "#<nothing>", said("1"))
	wantEvents(t, "((lambda (w g) (w g 'a)) write out)", "#<nothing>", said("a"))
	wantEvents(t, "(apply roll (list dice 6))", "4", rolled(4))
	wantEvents(t, "(apply tick (list clock))", "5", ticked(5))
	wantEvents(t, "(write (unseal key (seal out)) 2)", "#<nothing>", api.Event{Kind: api.Unseal}, said("2"))
	for _, text := range []string{"(define out in) (write out 1)", "(let ((out #t)) (write out 1))", "(write (seal out) 1)", "(write (list out) 1)", "(write 'out 1)", "(write 1 1)", "(write write 1)", "(set! key clock) (unseal key (car secrets))"} {
		if r := New().Run(worldly(text, 31)); r.Verdict != api.Denied || len(r.Events) > 0 {
			t.Errorf("P18: %s gives %+v, want Denied", text, r)
		}
	}
}

func TestP18Write(t *testing.T) {
	for _, c := range []struct{ x, want string }{
		{"1", "1"}, {"-07", "-7"}, {"#t", "#t"}, {"#f", "#f"}, {`"a b"`, `"a b"`}, {`""`, `""`}, {"'a", "a"}, {"'()", "()"}, {"'(1 (2 \"x\") ())", `(1 (2 "x") ())`}, {"(cons 1 2)", "(1 . 2)"}, {"(cons 1 (cons 2 3))", "(1 2 . 3)"},
		{"car", "#<procedure>"}, {"(lambda () 1)", "#<procedure>"}, {"(seal 1)", "#<seal>"}, {"secrets", "(#<seal> #<seal>)"}, {"out", "#<grant>"}, {"(if #f 1)", "#<nothing>"}, {"(list car (seal 1) out (if #f 1))", "(#<procedure> #<seal> #<grant> #<nothing>)"},
	} {
		alone := New().Run(worldly(c.x, api.Out))
		wantReport(t, "P18", worldly("(write out "+c.x+")", api.Out), api.Report{Verdict: api.Done, Value: "#<nothing>", Output: c.want, Steps: alone.Steps + 4 + len(c.want), Cells: alone.Cells, Events: []api.Event{said(c.want)}})
	}
	wantEvents(t, "(write out 1) (write out 'b) (list (write out \"c\") (write out '(d)))", "(#<nothing> #<nothing>)", said("1"), said("b"), said(`"c"`), said("(d)"))
	wantEvents(t, "(write out (write out 1))", "#<nothing>", said("1"), said("#<nothing>"))
}

// An output that meets the room just so, one that is short of it by each number of bytes, and fuel that ends at each of its bytes.
func TestP7P18Room(t *testing.T) {
	text, output := "(write out '(1 2)) (write out \"abc\")", `(1 2)"abc"`
	events := []api.Event{said("(1 2)"), said(`"abc"`)}
	s := worldly(text, api.Out)
	s.Secrets, s.Room = nil, len(output)
	wantReport(t, "P7", s, api.Report{Verdict: api.Done, Value: "#<nothing>", Output: output, Steps: 20, Cells: 2, Events: events})
	for room := range len(output) {
		s.Room = room
		want := api.Report{Verdict: api.NoRoom, Output: output[:room], Steps: 6 + room, Cells: 2}
		if room >= 5 {
			want.Place, want.Steps, want.Events = 19, 11+room, events[:1]
		}
		wantReport(t, "P7", s, want)
	}
	s.Room = len(output)
	for fuel := range 20 {
		s.Fuel = fuel
		want := api.Report{Verdict: api.NoFuel, Steps: fuel, Output: output[:max(0, min(fuel-5, 5))]}
		if fuel >= 4 {
			want.Cells = 2
		}
		if fuel >= 10 {
			want.Place, want.Output, want.Events = 19, output[:5+max(0, fuel-15)], events[:1]
		}
		wantReport(t, "P7", s, want)
	}
	s.Fuel, s.Room = 17, 7
	wantReport(t, "P18: NoFuel ahead of NoRoom", s, api.Report{Verdict: api.NoFuel, Place: 19, Output: output[:7], Steps: 17, Cells: 2, Events: events[:1]})
	s.Fuel = 18
	wantReport(t, "P18: a step ahead of its byte", s, api.Report{Verdict: api.NoRoom, Place: 19, Output: output[:7], Steps: 18, Cells: 2, Events: events[:1]})
}

// What would be written without end takes steps and room like all else.
func TestP18WriteTooLong(t *testing.T) {
	doubled := "(define (d n x) (if (= n 0) x (d (- n 1) (cons x x)))) (define x (d 100 'a)) "
	s := worldly(doubled+"(write out x)", api.Out)
	if r := New().Run(s); r.Verdict != api.NoRoom || len(r.Output) != api.MaxRoom || !strings.HasPrefix(r.Output, strings.Repeat("(", 100)+"a . a)") || len(r.Events) != 0 {
		t.Errorf("P18: %+v", r)
	}
	s.Fuel = 3000
	if r := New().Run(s); r.Verdict != api.NoFuel || len(r.Output) != 3000-New().Run(worldly(doubled, api.Out)).Steps-5 {
		t.Errorf("P18: %+v", r)
	}
	s = worldly("(define (f) (write out 'abc) (f)) (f)", api.Out)
	if r := New().Run(s); r.Verdict != api.NoRoom || r.Output != strings.Repeat("abc", 666)+"ab" || len(r.Events) != 666 {
		t.Errorf("P18: %+v", r)
	}
}

func TestP18ReadLine(t *testing.T) {
	wantEvents(t, "(read-line in)", `"one"`, readLine(1, "one"))
	wantEvents(t, "(list (read-line in) (read-line in) (read-line in) (read-line in) (read-line in))", `("one" "" "(x)" #f #f)`, readLine(1, "one"), readLine(2, ""), readLine(3, "(x)"), readLine(3, ""), readLine(3, ""))
	wantEvents(t, "(string-append (read-line in) (read-line in))", `"one"`, readLine(1, "one"), readLine(2, ""))
	s := worldly("(read-line in)", api.In)
	s.Secrets = nil
	wantReport(t, "P18: a line takes a cell", s, api.Report{Verdict: api.Done, Value: `"one"`, Steps: 4, Cells: 1, Events: []api.Event{readLine(1, "one")}})
	s.Quota = 0
	wantReport(t, "P18: the cell ahead of the event", s, api.Report{Verdict: api.NoCells, Steps: 4})
	s.Lines = nil
	wantReport(t, "P18: no line, no cell", s, api.Report{Verdict: api.Done, Value: "#f", Steps: 4, Events: []api.Event{readLine(0, "")}})
}

// A line may hold any bytes, and more of them than a text.
func TestP18AnyLine(t *testing.T) {
	every := make([]byte, 256)
	for i := range every {
		every[i] = byte(i)
	}
	long := strings.Repeat("x", api.MaxText+1)
	for _, line := range []string{"", "\n", `"`, `\`, "(", "\xff\x00", "żółw", string(every), long} {
		s := worldly("(define l (read-line in)) (write out l) (list (string-length l) (string? l) (eq? l (read-line in)))", 31)
		s.Lines = []string{line, line}
		want := `"` + line + `"`
		if r := New().Run(s); r.Verdict != api.Done || r.Value != "("+strconv.Itoa(len(line))+" #t #t)" || r.Output != want || r.Events[0] != readLine(1, line) || r.Events[1] != said(want) {
			t.Errorf("P18: line %q: %+v", line, r)
		}
	}
	s := worldly("(read-line in)", api.In)
	s.Lines = []string{long}
	if r := New().Run(s); r.Value != `"`+long[:api.MaxText-1] || r.Events[0].Text != long {
		t.Errorf("P6: a line's first MaxText bytes: %+v", r)
	}
	s.Text = `(string-append (read-line in) "")`
	if r := New().Run(s); r.Verdict != api.Overflow {
		t.Errorf("P14: %+v", r)
	}
}

func TestP18Tick(t *testing.T) {
	wantEvents(t, "(tick clock)", "5", ticked(5))
	wantEvents(t, "(list (tick clock) (tick clock) (tick clock) (tick clock))", "(5 -7 0 0)", ticked(5), ticked(-7), ticked(0), ticked(0))
	for _, now := range []int{0, 1, -1, math.MinInt, math.MaxInt} {
		s := full("(tick clock)")
		s.Grants, s.Ticks = api.Clock, []int{now}
		wantReport(t, "P18", s, api.Report{Verdict: api.Done, Value: strconv.Itoa(now), Steps: 4, Events: []api.Event{ticked(now)}})
	}
}

func TestP18Roll(t *testing.T) {
	wantEvents(t, "(list (roll dice 6) (roll dice 6) (roll dice 6) (roll dice 10) (roll dice 10) (roll dice 6) (roll dice 6))", "(4 0 1 7 7 0 0)", rolled(4), rolled(0), rolled(1), rolled(7), rolled(7), rolled(0), rolled(0))
	for _, c := range []struct{ draw, sides, want int }{
		{0, 1, 0}, {5, 1, 0}, {5, 5, 0}, {5, 6, 5}, {7, 3, 1}, {-1, 6, 0}, {-2, 6, 1}, {-7, 6, 0}, {-8, 6, 1}, {-1, 1, 0},
		{math.MaxInt, math.MaxInt, 0}, {math.MaxInt - 1, math.MaxInt, math.MaxInt - 1}, {math.MinInt, math.MaxInt, 0}, {math.MinInt + 1, math.MaxInt, math.MaxInt - 1}, {math.MinInt, 2, 1}, {math.MinInt, 1, 0}, {math.MaxInt, 10, 7},
	} {
		s := full("(roll dice " + strconv.Itoa(c.sides) + ")")
		s.Grants, s.Draws = api.Dice, []int{c.draw}
		wantReport(t, "P18", s, api.Report{Verdict: api.Done, Value: strconv.Itoa(c.want), Steps: 5, Events: []api.Event{rolled(c.want)}})
	}
	for _, sides := range []string{"0", "-1", "-6", least} {
		s := worldly("(roll dice "+sides+")", api.Dice)
		wantReport(t, "P18", s, api.Report{Verdict: api.Overflow, Steps: 5, Cells: 4})
		s.Grants = 31 - api.Dice
		wantReport(t, "P18: Denied ahead of Overflow", s, api.Report{Verdict: api.Denied, Steps: 5, Cells: 4})
	}
}

func TestP18Unseal(t *testing.T) {
	opened := api.Event{Kind: api.Unseal}
	wantEvents(t, "(unseal key (car secrets))", "(1 x)", opened)
	wantEvents(t, "(unseal key (car (cdr secrets)))", "7", opened)
	wantEvents(t, "(unseal key (seal car))", "#<procedure>", opened)
	wantEvents(t, "(unseal key (seal (seal 1)))", "#<seal>", opened)
	wantEvents(t, "(unseal key (unseal key (seal (seal 1))))", "1", opened, opened)
	wantEvents(t, "(let ((p (list 1))) (eq? p (unseal key (seal p))))", "#t", opened)
	wantEvents(t, "(let ((s (seal 1))) (list (unseal key s) (unseal key s)))", "(1 1)", opened, opened)
	twice := "(list (unseal key (car secrets)) (unseal key (car secrets)))"
	wantEvents(t, twice, "((1 x) (1 x))", opened, opened)
	wantEvents(t, "(define s (car secrets)) (eq? (unseal key s) (unseal key s))", "#f", opened, opened)
	if r := New().Run(worldly(twice, api.Unseal)); r.Cells != 4+2+2+2 || r.Steps != 19 {
		t.Errorf("P18: a secret takes the cells of quote each time: %+v", r)
	}
	for _, c := range []struct {
		secret string
		cells  int
	}{
		{"7", 0}, {"()", 0}, {`"a"`, 0}, {"(a)", 1}, {"'a", 2}, {"((a b) (c) ())", 6},
	} {
		s := full("(unseal key (car secrets))")
		s.Grants, s.Secrets = api.Unseal, []string{c.secret}
		written, _, _ := Parse(c.secret)
		want := api.Report{Verdict: api.Done, Value: strings.TrimSpace(written), Steps: 8, Cells: 2 + c.cells, Events: []api.Event{opened}}
		wantReport(t, "P18", s, want)
		for s.Quota = 2; s.Quota < want.Cells; s.Quota++ {
			wantReport(t, "P18: the cells ahead of the event", s, api.Report{Verdict: api.NoCells, Steps: 8, Cells: s.Quota})
		}
	}
	s := worldly("(unseal key (seal '(1 2 3)))", api.Unseal)
	if r := New().Run(s); r.Value != "(1 2 3)" || r.Cells != 4+3+1 {
		t.Errorf("P18: what is no secret takes no cells: %+v", r)
	}
}

func TestP18EventsInOrder(t *testing.T) {
	text := "(define (f) (write out (tick clock)) (roll dice 6)) (list (read-line in) (f)) (unseal key (car secrets)) (write out (read-line in)) (f)"
	wantEvents(t, text, "0", readLine(1, "one"), ticked(5), said("5"), rolled(4), api.Event{Kind: api.Unseal}, readLine(2, ""), said(`""`), ticked(-7), said("-7"), rolled(0))
	// What has been taken from the world stays taken, wherever a continuation goes back to.
	wantEvents(t, "(define k #f) (define n 0) (begin (call/cc (lambda (c) (set! k c))) (write out (read-line in)) (set! n (+ n 1)) (if (< n 3) (k 0) n))", "3", readLine(1, "one"), said(`"one"`), readLine(2, ""), said(`""`), readLine(3, "(x)"), said(`"(x)"`))
	wantEvents(t, "(call/cc (lambda (k) (dynamic-wind (lambda () (write out 1)) (lambda () (k (tick clock))) (lambda () (write out 2)))))", "5", said("1"), ticked(5), said("2"))
	s := worldly("(write out 1) (tick clock) (car 1) (write out 2)", 31)
	wantReport(t, "P6: what there was up to the end", s, api.Report{Verdict: api.Mistyped, Place: 27, Output: "1", Steps: 14, Cells: 4, Events: []api.Event{said("1"), ticked(5)}})
}

// outcome works out by hand what becomes of a row of forms that call the world.
type outcome struct {
	s      api.Submission
	report api.Report
}

// goesOn takes one of what is counted, or ends the run.
func (o *outcome) goesOn(count *int, most, verdict int) bool {
	if *count == most {
		o.report.Verdict = verdict
		return false
	}
	*count++
	return true
}

func (o *outcome) steps(n int) bool {
	for range n {
		if !o.goesOn(&o.report.Steps, o.s.Fuel, api.NoFuel) {
			return false
		}
	}
	return true
}

func (o *outcome) cells(n int) bool {
	for range n {
		if !o.goesOn(&o.report.Cells, o.s.Quota, api.NoCells) {
			return false
		}
	}
	return true
}

func (o *outcome) puts(text string) bool {
	for _, b := range []byte(text) {
		if room := len(o.report.Output); !o.steps(1) || !o.goesOn(&room, o.s.Room, api.NoRoom) {
			return false
		}
		o.report.Output += string(b)
	}
	return true
}

func (o *outcome) gives(value string, e api.Event) bool {
	o.report.Value = value
	o.report.Events = append(o.report.Events, e)
	return true
}

// anyForm answers a form that calls the world, and works out what becomes of it.
func (o *outcome) anyForm(dice *rand.Rand) (string, func() bool) {
	switch dice.Intn(5) {
	case 0:
		data := []string{"a", "17", "(1 2)", "((a) b)", "()"}
		d, cells := dice.Intn(len(data)), []int{0, 0, 2, 3, 0}
		return "(write out '" + data[d] + ")", func() bool {
			return o.steps(4) && o.cells(cells[d]) && o.steps(1) && o.puts(data[d]) && o.gives("#<nothing>", said(data[d]))
		}
	case 1:
		return "(read-line in)", func() bool {
			read := o.count(api.In)
			if read >= len(o.s.Lines) {
				return o.steps(4) && o.gives("#f", readLine(len(o.s.Lines), ""))
			}
			return o.steps(4) && o.cells(1) && o.gives(`"`+o.s.Lines[read]+`"`, readLine(read+1, o.s.Lines[read]))
		}
	case 2:
		return "(tick clock)", func() bool {
			now := at(o.s.Ticks, o.count(api.Clock))
			return o.steps(4) && o.gives(strconv.Itoa(now), ticked(now))
		}
	case 3:
		sides := 1 + dice.Intn(9)
		return "(roll dice " + strconv.Itoa(sides) + ")", func() bool {
			number := at(o.s.Draws, o.count(api.Dice))
			if number < 0 {
				number = -(number + 1)
			}
			return o.steps(5) && o.gives(strconv.Itoa(number%sides), rolled(number%sides))
		}
	}
	return "(unseal key (car secrets))", func() bool {
		return o.steps(8) && o.cells(2) && o.gives(o.s.Secrets[0], api.Event{Kind: api.Unseal})
	}
}

// count tells how many events of a kind there were.
func (o *outcome) count(kind int) int {
	count := 0
	for _, e := range o.report.Events {
		if e.Kind == kind {
			count++
		}
	}
	return count
}

func at(numbers []int, i int) int {
	if i < len(numbers) {
		return numbers[i]
	}
	return 0
}

func TestP18AnyCalls(t *testing.T) {
	dice := rand.New(rand.NewSource(4))
	for range 5000 {
		o := &outcome{s: worldly("", 31)}
		o.s.Fuel, o.s.Quota, o.s.Room = dice.Intn(200), 4+dice.Intn(30), dice.Intn(40)
		o.s.Ticks, o.s.Draws = anyNumbers(dice), anyNumbers(dice)
		o.report.Verdict, o.report.Cells = api.Done, 4
		for range dice.Intn(20) {
			form, happens := o.anyForm(dice)
			place := len(o.s.Text)
			o.s.Text += form
			if o.report.Verdict == api.Done && !happens() {
				o.report.Place, o.report.Value = place, ""
			}
		}
		wantReport(t, "P18", o.s, o.report)
	}
}

func anyNumbers(dice *rand.Rand) []int {
	var numbers []int
	for range dice.Intn(5) {
		numbers = append(numbers, int(dice.Uint64()))
	}
	return numbers
}
