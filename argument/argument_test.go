package argument

import (
	"testing"

	"pupil/api"
	"pupil/value"
	"pupil/verdict"
)

// ending answers the verdict that work ends in, or 0.
func ending(work func()) (ended int) {
	defer func() {
		if end, ok := recover().(verdict.Ending); ok {
			ended = end.Verdict
		}
	}()
	work()
	return 0
}

func TestP14Count(t *testing.T) {
	for count := range 4 {
		for given := range 4 {
			want := 0
			if given != count {
				want = api.Miscalled
			}
			if got := ending(func() { MustBe(count, make([]value.Value, given)) }); got != want {
				t.Errorf("P14: %d arguments where %d are asked for: verdict %d, want %d", given, count, got, want)
			}
		}
	}
}

func TestP14Kind(t *testing.T) {
	if got := As[value.Number](value.Number(5)); got != 5 {
		t.Errorf("P14: 5 is %d as a number", got)
	}
	if got := As[value.Value](value.Symbol("a")); got != value.Symbol("a") {
		t.Errorf("P14: a is %v as anything", got)
	}
	for _, v := range []value.Value{value.Symbol("5"), value.String("5"), value.Boolean(true), value.Empty{}, value.Nothing{}, &value.Pair{}, &value.Grant{}} {
		if got := ending(func() { As[value.Number](v) }); got != api.Mistyped {
			t.Errorf("P14: %v as a number: verdict %d, want Mistyped", v, got)
		}
	}
}
