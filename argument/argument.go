// Package argument: what a procedure asks of its arguments.
package argument

import (
	"pupil/api"
	"pupil/value"
	"pupil/verdict"
)

// MustBe ends the run unless there are so many arguments.
func MustBe(count int, arguments []value.Value) {
	verdict.Unless(len(arguments) == count, api.Miscalled)
}

// As takes an argument as one of a kind.
func As[T value.Value](v value.Value) T {
	if t, ok := v.(T); ok {
		return t
	}
	panic(verdict.Of(api.Mistyped))
}
