package world

import (
	"testing"

	"pupil/datum"
	"pupil/eval"
	"pupil/value"
)

func TestSealedSecrets(t *testing.T) {
	m := eval.New(0, 100)
	a := datum.OfSymbol("a")
	seals := sealed(m, []datum.Datum{datum.OfNumber(7), datum.OfList(datum.OfList(a), a)})
	if got := value.Start(seals, 100); got != "(#<seal> #<seal>)" || m.Cells.Taken() != 4 {
		t.Errorf("P6: sealed as %s with %d cells", got, m.Cells.Taken())
	}
	first, second := seals.(*value.Pair), seals.(*value.Pair).Second.(*value.Pair)
	for _, c := range []struct {
		seal  value.Value
		want  string
		cells int // by then
	}{
		{first.First, "7", 4}, {second.First, "((a) a)", 7}, {second.First, "((a) a)", 10},
	} {
		if got := value.Start(c.seal.(*value.Seal).Open(), 100); got != c.want || m.Cells.Taken() != c.cells {
			t.Errorf("P6: a seal holds %s, %d cells by then, want %s, %d", got, m.Cells.Taken(), c.want, c.cells)
		}
	}
}
