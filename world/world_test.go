package world

import (
	"slices"
	"testing"

	"pupil/api"
	"pupil/datum"
	"pupil/eval"
	"pupil/value"
)

func TestSealedSecrets(t *testing.T) {
	m := eval.New(0, 100)
	a := datum.OfSymbol("a")
	seals := sealed(m, []datum.Datum{datum.OfNumber(7), datum.OfList(datum.OfList(a), a)})
	if got := value.Start(seals, 100); got != "(#<seal> #<seal>)" || m.Cells.Taken() != 4 {
		t.Errorf("P6: sealed as %s with %d cells", got, m.Cells.Taken())
	}
	first, second := seals.(*value.Pair), seals.(*value.Pair).Second.(*value.Pair)
	for _, c := range []struct {
		seal  value.Value
		want  string
		cells int // by then
	}{
		{first.First, "7", 4}, {second.First, "((a) a)", 7}, {second.First, "((a) a)", 10},
	} {
		if got := value.Start(c.seal.(*value.Seal).Open(), 100); got != c.want || m.Cells.Taken() != c.cells {
			t.Errorf("P6: a seal holds %s, %d cells by then, want %s, %d", got, m.Cells.Taken(), c.want, c.cells)
		}
	}
}

// A world is handed its events' channel: what is done is sent over it, and whoever ranges over it has the events in their order.
func TestP18EventsGoOverTheChannel(t *testing.T) {
	events := make(chan api.Event)
	s := api.Submission{Room: 9, Lines: []string{"a"}, Ticks: []int{-3}, Draws: []int{-5}}
	w := New(eval.New(9, 9), s, events)
	go func() {
		defer close(events)
		w.write([]value.Value{value.Symbol("xy")})
		w.readLine(nil)
		w.readLine(nil)
		w.tick(nil)
		w.roll([]value.Value{value.Number(3)})
		w.unseal([]value.Value{&value.Seal{Open: func() value.Value { return value.Empty{} }}})
	}()
	var told []api.Event
	for e := range events {
		told = append(told, e)
	}
	want := []api.Event{{Kind: api.Out, Text: "xy"}, {Kind: api.In, Number: 1, Text: "a"}, {Kind: api.In, Number: 1}, {Kind: api.Clock, Number: -3}, {Kind: api.Dice, Number: 1}, {Kind: api.Unseal}}
	if !slices.Equal(told, want) || w.Output() != "xy" {
		t.Errorf("P18: events %+v and output %q, want %+v", told, w.Output(), want)
	}
}

func TestNext(t *testing.T) {
	numbers := []int{4, 0}
	left := numbers
	for _, want := range []struct {
		number int
		ok     bool
	}{{4, true}, {0, true}, {0, false}, {0, false}} {
		if number, ok := next(&left); number != want.number || ok != want.ok {
			t.Errorf("P18: the next of %v is %d, %t, want %d, %t", numbers, number, ok, want.number, want.ok)
		}
	}
	if !slices.Equal(numbers, []int{4, 0}) {
		t.Errorf("P2: taken from, and now %v", numbers)
	}
}
