// Package world: what a program has of the world outside it.
package world

import (
	"pupil/api"
	"pupil/datum"
	"pupil/eval"
	"pupil/value"
)

// Define makes the grants and the sealed secrets global variables of a machine.
func Define(m *eval.Machine, grants int, secrets []datum.Datum) {
	m.Define("secrets", sealed(m, secrets))
	m.Define("out", granted(grants, api.Out))
	m.Define("in", granted(grants, api.In))
	m.Define("clock", granted(grants, api.Clock))
	m.Define("dice", granted(grants, api.Dice))
	m.Define("key", granted(grants, api.Unseal))
}

func granted(grants, kind int) value.Value {
	if grants&kind == 0 {
		return value.Boolean(false)
	}
	return &value.Grant{Kind: kind}
}

// sealed makes the list of the secrets. It costs the same whatever they are: only who opens one pays for what is in it.
func sealed(m *eval.Machine, secrets []datum.Datum) value.Value {
	seals := make([]value.Value, len(secrets))
	for i, secret := range secrets {
		m.Cells.Take(2) // the seal, and its pair in the list
		seals[i] = &value.Seal{Open: func() value.Value {
			m.Cells.Take(datum.CountMembers(secret))
			return value.Of(secret)
		}}
	}
	return value.List(seals, value.Empty{})
}
