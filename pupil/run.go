package pupil

import (
	"pupil/api"
	"pupil/datum"
	"pupil/eval"
	"pupil/expand"
	"pupil/meter"
	"pupil/primitive"
	"pupil/read"
	"pupil/value"
	"pupil/verdict"
	"pupil/world"
)

const allGrants = api.Out | api.In | api.Clock | api.Dice | api.Unseal

// run is one submission on its way to a report.
type run struct {
	machine  *eval.Machine
	rewrites *meter.Meter
	report   api.Report
}

func grade(s api.Submission) api.Report {
	r := &run{machine: eval.New(s.Fuel, s.Quota), rewrites: meter.New(s.Rewrites, api.NoRewrite)}
	r.submission(s)
	r.report.Steps = r.machine.Steps.Taken()
	r.report.Cells = r.machine.Cells.Taken()
	r.report.Rewrites = r.rewrites.Taken()
	return r.report
}

// submission is the one call that catches what ends a run. Any other panic would be a fault of this program: it is caught as well, for none may come out, and leaves a report without a verdict.
func (r *run) submission(s api.Submission) {
	defer func() {
		if end, ok := recover().(verdict.Ending); ok {
			r.report.Verdict, r.report.Value = end.Verdict, end.Value
		}
	}()
	mustBeAllowed(s)
	secrets := secretsOf(s.Secrets)
	forms := r.formsOf(s.Text)
	primitive.Define(r.machine)
	world.Define(r.machine, s.Grants, secrets)
	r.deal(forms)
	r.report.Verdict, r.report.Place = api.Done, 0
}

func mustBeAllowed(s api.Submission) {
	if !isUpTo(s.Grants, allGrants) || !isUpTo(s.Fuel, api.MaxFuel) || !isUpTo(s.Rewrites, api.MaxRewrites) ||
		!isUpTo(s.Quota, api.MaxQuota) || !isUpTo(s.Room, api.MaxRoom) || len(s.Secrets) > api.MaxSecrets {
		panic(verdict.Of(api.Refused))
	}
}

func isUpTo(n, most int) bool { return 0 <= n && n <= most }

func secretsOf(texts []string) []datum.Datum {
	var secrets []datum.Datum
	for _, text := range texts {
		forms, stop := read.Text(text)
		if stop != nil || len(forms) != 1 {
			panic(verdict.Of(api.Refused))
		}
		secrets = append(secrets, forms[0].Datum)
	}
	return secrets
}

func (r *run) formsOf(text string) []read.Form {
	forms, stop := read.Text(text)
	if stop != nil {
		r.report.Reason, r.report.Place = stop.Reason, stop.Place
		panic(verdict.Of(api.Unread))
	}
	return forms
}

// deal deals with the forms, one after the other: what one of them defines, the next ones are expanded with.
func (r *run) deal(forms []read.Form) {
	expander := expand.New(r.machine, r.rewrites)
	for i, form := range forms {
		r.report.Place = form.Place
		given := r.machine.Run(expander.Form(form.Datum))
		if i == len(forms)-1 {
			r.report.Value = value.Start(given, api.MaxText)
		}
	}
}
