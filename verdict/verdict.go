// Package verdict: how a run is ended from deep inside.
package verdict

// Ending is what is panicked with to end a run. The one call that runs a submission catches it.
type Ending struct {
	Verdict int
	Value   string // what the program raised, written
}

// Of makes an Ending without a value.
func Of(verdict int) Ending { return Ending{Verdict: verdict} }

// Unless ends the run with a verdict, unless what it needs holds.
func Unless(holds bool, verdict int) {
	if !holds {
		panic(Of(verdict))
	}
}
