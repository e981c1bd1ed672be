package pupil

import (
	"pupil/api"
	"pupil/datum"
	"pupil/eval"
	"pupil/expand"
	"pupil/meter"
	"pupil/primitive"
	"pupil/read"
	"pupil/value"
	"pupil/verdict"
	"pupil/world"
)

const allGrants = api.Out | api.In | api.Clock | api.Dice | api.Unseal

// run is one submission on its way to a report.
type run struct {
	machine  *eval.Machine
	rewrites *meter.Meter
	world    *world.World
	report   api.Report // how it ended; the grader adds what there was up to then
}

// grade lets the program run in a goroutine of its own, which tells its events and closes them when the run has ended.
func grade(s api.Submission) api.Report {
	events := make(chan api.Event)
	machine := eval.New(s.Fuel, s.Quota)
	r := &run{machine: machine, rewrites: meter.New(s.Rewrites, api.NoRewrite), world: world.New(machine, s, events)}
	go func() {
		defer close(events)
		r.submission(s)
	}()
	return r.gathered(events)
}

// gathered gathers the report. Until the events are closed the run is the program's: only then is it looked at here.
func (r *run) gathered(events <-chan api.Event) api.Report {
	var told []api.Event
	for event := range events {
		told = append(told, event)
	}
	report := r.report
	report.Output = r.world.Output()
	report.Steps = r.machine.Steps.Taken()
	report.Cells = r.machine.Cells.Taken()
	report.Rewrites = r.rewrites.Taken()
	report.Events = told
	return report
}

// submission is the one call that catches what ends a run. Any other panic would be a fault of this program: it is caught as well, for none may come out, and leaves a report without a verdict.
func (r *run) submission(s api.Submission) {
	defer func() {
		if end, ok := recover().(verdict.Ending); ok {
			r.report.Verdict, r.report.Value = end.Verdict, end.Value
		}
	}()
	mustBeAllowed(s)
	secrets := secretsOf(s.Secrets)
	forms := r.formsOf(s.Text)
	primitive.Define(r.machine)
	r.world.Define(s.Grants, secrets)
	r.deal(forms)
	r.report.Verdict, r.report.Place = api.Done, 0
}

func mustBeAllowed(s api.Submission) {
	if !isUpTo(s.Grants, allGrants) || !isUpTo(s.Fuel, api.MaxFuel) || !isUpTo(s.Rewrites, api.MaxRewrites) ||
		!isUpTo(s.Quota, api.MaxQuota) || !isUpTo(s.Room, api.MaxRoom) || len(s.Secrets) > api.MaxSecrets {
		panic(verdict.Of(api.Refused))
	}
}

func isUpTo(n, most int) bool { return 0 <= n && n <= most }

func secretsOf(texts []string) []datum.Datum {
	var secrets []datum.Datum
	for _, text := range texts {
		forms, stop := read.Text(text)
		if stop != nil || len(forms) != 1 {
			panic(verdict.Of(api.Refused))
		}
		secrets = append(secrets, forms[0].Datum)
	}
	return secrets
}

func (r *run) formsOf(text string) []read.Form {
	forms, stop := read.Text(text)
	if stop != nil {
		r.report.Reason, r.report.Place = stop.Reason, stop.Place
		panic(verdict.Of(api.Unread))
	}
	return forms
}

// deal deals with the forms, one after the other: what one of them defines, the next ones are expanded with.
func (r *run) deal(forms []read.Form) {
	expander := expand.New(r.machine, r.rewrites)
	for i, form := range forms {
		r.report.Place = form.Place
		given := r.machine.Run(expander.Form(form.Datum))
		if i == len(forms)-1 {
			r.report.Value = value.Start(given, api.MaxText)
		}
	}
}
