// Package meter: counts what a run takes of what it is granted, and ends it when there is no more.
package meter

import "pupil/verdict"

// Meter counts one thing.
type Meter struct {
	taken, most int
	out         int // the verdict when there is no more
}

// New makes a Meter that lets most be taken.
func New(most, out int) *Meter { return &Meter{most: most, out: out} }

// Taken tells how much has been taken.
func (m *Meter) Taken() int { return m.taken }

// Take takes n, one by one: if there are not so many, what is left is taken all the same.
func (m *Meter) Take(n int) {
	if n > m.most-m.taken {
		m.taken = m.most
		panic(verdict.Of(m.out))
	}
	m.taken += n
}
