package datum

import "testing"

func TestCounts(t *testing.T) {
	one, a := OfNumber(1), OfSymbol("a")
	for _, c := range []struct {
		d    Datum
		want int
	}{
		{one, 0},
		{OfString("(a b)"), 0},
		{OfList(), 0},
		{OfList(one, a), 2},
		{OfList(OfList()), 1},
		{OfList(OfList(one), a), 3},
		{OfList(OfList(OfList(one, a), a), OfList(), a), 7},
	} {
		if got := CountMembers(c.d); got != c.want {
			t.Errorf("P13: CountMembers(%+v) = %d, want %d", c.d, got, c.want)
		}
		if got := CountParts(c.d); got != c.want+1 {
			t.Errorf("P11: CountParts(%+v) = %d, want %d", c.d, got, c.want+1)
		}
	}
}
