package value

import (
	"iter"
	"strconv"
)

// Written yields a value's bytes as it is written. They are made as they are asked for: a value whose pairs share their parts can be written far longer than anyone will read.
func Written(v Value) iter.Seq[byte] {
	return func(yield func(byte) bool) { write(v, yield) }
}

// write answers whether yield wants more, as all functions here do.
func write(v Value, yield func(byte) bool) bool {
	if pair, ok := v.(*Pair); ok {
		return writePairs(pair, yield)
	}
	return writeText(textOf(v), yield)
}

func writeText(text string, yield func(byte) bool) bool {
	for i := range len(text) {
		if !yield(text[i]) {
			return false
		}
	}
	return true
}

func writePairs(pair *Pair, yield func(byte) bool) bool {
	if !yield('(') || !write(pair.First, yield) {
		return false
	}
	for {
		switch rest := pair.Second.(type) {
		case *Pair:
			if !yield(' ') || !write(rest.First, yield) {
				return false
			}
			pair = rest
		case Empty:
			return yield(')')
		default:
			return writeText(" . ", yield) && write(rest, yield) && yield(')')
		}
	}
}

func textOf(v Value) string {
	switch v := v.(type) {
	case Number:
		return strconv.FormatInt(int64(v), 10)
	case Boolean:
		if v {
			return "#t"
		}
		return "#f"
	case String:
		return `"` + string(v) + `"`
	case Symbol:
		return string(v)
	case Empty:
		return "()"
	case *Procedure:
		return "#<procedure>"
	case *Seal:
		return "#<seal>"
	case *Grant:
		return "#<grant>"
	}
	return "#<nothing>"
}

// Start answers the first bytes of a value as it is written, at most so many.
func Start(v Value, most int) string {
	var start []byte
	for b := range Written(v) {
		if len(start) == most {
			break
		}
		start = append(start, b)
	}
	return string(start)
}
