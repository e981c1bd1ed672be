// Package pupil: small Scheme programs, each run in a world of its own. See DOC.md.
package pupil

import (
	"strings"

	"pupil/api"
	"pupil/read"
	"pupil/value"
)

// Parse reads a text, and writes what it says in one way (P3 to P5).
func Parse(text string) (string, api.Errno, int) {
	forms, stop := read.Text(text)
	if stop != nil {
		return "", stop.Reason, stop.Place
	}
	var out strings.Builder
	for _, form := range forms {
		for b := range value.Written(value.Of(form.Datum)) {
			out.WriteByte(b)
		}
		out.WriteByte('\n')
	}
	return out.String(), api.OK, 0
}

// Grader runs submissions, one after the other. It keeps nothing of them.
type Grader struct{}

// New makes a grader (P6).
func New() *Grader { return &Grader{} }

// Run runs a submission (P6 to P20).
func (g *Grader) Run(s api.Submission) api.Report {
	if g == nil {
		return api.Report{}
	}
	return grade(s)
}
