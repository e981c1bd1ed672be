package world

import (
	"strings"

	"pupil/api"
	"pupil/argument"
	"pupil/value"
	"pupil/verdict"
)

// asking makes a primitive whose first argument is a grant of one kind. The others, so many, are looked at by work: that the grant is not there comes ahead of what is wrong with them.
func asking(kind, others int, work func(others []value.Value) value.Value) *value.Procedure {
	return &value.Procedure{Apply: func(arguments []value.Value, use value.Use) value.Next {
		argument.MustBe(1+others, arguments)
		grant, ok := arguments[0].(*value.Grant)
		verdict.Unless(ok && grant.Kind == kind, api.Denied)
		return use(work(arguments[1:]))
	}}
}

func (w *World) tell(kind, number int, text string) {
	w.events <- api.Event{Kind: kind, Number: number, Text: text}
}

// next takes the first of what is left; if nothing is, it answers a zero.
func next[T any](left *[]T) (first T, ok bool) {
	if len(*left) == 0 {
		return first, false
	}
	first, *left = (*left)[0], (*left)[1:]
	return first, true
}

// write pays for each byte before the next one is looked for: what is written may be too long ever to be written whole.
func (w *World) write(others []value.Value) value.Value {
	start := len(w.output)
	for b := range value.Written(others[0]) {
		w.machine.Steps.Take(1)
		w.room.Take(1)
		w.output = append(w.output, b)
	}
	w.tell(api.Out, 0, string(w.output[start:]))
	return value.Nothing{}
}

func (w *World) readLine([]value.Value) value.Value {
	line, ok := next(&w.lines)
	if !ok {
		w.tell(api.In, w.read, "")
		return value.Boolean(false)
	}
	w.machine.Cells.Take(1)
	w.read++
	// Cloned, for a report shares no memory with what was handed in.
	w.tell(api.In, w.read, strings.Clone(line))
	return value.String(line)
}

func (w *World) tick([]value.Value) value.Value {
	now, _ := next(&w.ticks)
	w.tell(api.Clock, now, "")
	return value.Number(now)
}

func (w *World) roll(others []value.Value) value.Value {
	sides := argument.As[value.Number](others[0])
	verdict.Unless(sides >= 1, api.Overflow)
	draw, _ := next(&w.draws)
	if draw < 0 {
		draw = -(draw + 1) // not -draw: the least number has none
	}
	rolled := value.Number(draw) % sides
	w.tell(api.Dice, int(rolled), "")
	return rolled
}

func (w *World) unseal(others []value.Value) value.Value {
	opened := argument.As[*value.Seal](others[0]).Open()
	w.tell(api.Unseal, 0, "")
	return opened
}
