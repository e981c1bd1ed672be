// Package world: what a program has of the world outside it, and what it does to it.
package world

import (
	"pupil/api"
	"pupil/datum"
	"pupil/eval"
	"pupil/meter"
	"pupil/value"
)

// World is the world of one run.
type World struct {
	machine *eval.Machine
	events  chan<- api.Event // what the program does, told as it does it
	room    *meter.Meter
	output  []byte
	// What has not been taken yet.
	lines        []string
	ticks, draws []int
	read         int // how many lines have been taken
}

// New makes the world of a submission.
func New(m *eval.Machine, s api.Submission, events chan<- api.Event) *World {
	return &World{
		machine: m,
		events:  events,
		room:    meter.New(s.Room, api.NoRoom),
		lines:   s.Lines,
		ticks:   s.Ticks,
		draws:   s.Draws,
	}
}

// Output is what has been put out.
func (w *World) Output() string { return string(w.output) }

// Define makes the sealed secrets, the grants and the primitives that ask for them global variables.
func (w *World) Define(grants int, secrets []datum.Datum) {
	m := w.machine
	m.Define("secrets", sealed(m, secrets))
	m.Define("out", granted(grants, api.Out))
	m.Define("in", granted(grants, api.In))
	m.Define("clock", granted(grants, api.Clock))
	m.Define("dice", granted(grants, api.Dice))
	m.Define("key", granted(grants, api.Unseal))
	m.Define("write", asking(api.Out, 1, w.write))
	m.Define("read-line", asking(api.In, 0, w.readLine))
	m.Define("tick", asking(api.Clock, 0, w.tick))
	m.Define("roll", asking(api.Dice, 1, w.roll))
	m.Define("unseal", asking(api.Unseal, 1, w.unseal))
}

func granted(grants, kind int) value.Value {
	if grants&kind == 0 {
		return value.Boolean(false)
	}
	return &value.Grant{Kind: kind}
}

// sealed makes the list of the secrets. It costs the same whatever they are: only who opens one pays for what is in it.
func sealed(m *eval.Machine, secrets []datum.Datum) value.Value {
	seals := make([]value.Value, len(secrets))
	for i, secret := range secrets {
		m.Cells.Take(2) // the seal, and its pair in the list
		seals[i] = &value.Seal{Open: func() value.Value {
			m.Cells.Take(datum.CountMembers(secret))
			return value.Of(secret)
		}}
	}
	return value.List(seals, value.Empty{})
}
