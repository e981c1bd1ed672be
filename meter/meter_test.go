package meter

import (
	"testing"

	"pupil/verdict"
)

// take answers the verdict that taking n ends in, or 0.
func take(m *Meter, n int) (ended int) {
	defer func() {
		if end, ok := recover().(verdict.Ending); ok {
			ended = end.Verdict
		}
	}()
	m.Take(n)
	return 0
}

func TestP7Take(t *testing.T) {
	for _, c := range []struct {
		most  int
		takes []int
		taken int
		ended int // by the last of takes
	}{
		{0, []int{0}, 0, 0},
		{0, []int{1}, 0, 42},
		{1, []int{1}, 1, 0},
		{1, []int{1, 0}, 1, 0},
		{1, []int{1, 1}, 1, 42},
		{5, []int{2, 3}, 5, 0},
		{5, []int{2, 4}, 5, 42},
		{5, []int{6}, 5, 42},
		{5, []int{4}, 4, 0},
	} {
		m, ended := New(c.most, 42), 0
		for _, n := range c.takes {
			ended = take(m, n)
		}
		if m.Taken() != c.taken || ended != c.ended {
			t.Errorf("P7: of %d, %v: %d taken, verdict %d, want %d, %d", c.most, c.takes, m.Taken(), ended, c.taken, c.ended)
		}
	}
}
