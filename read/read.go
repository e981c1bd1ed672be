// Package read: turns a text into its data, or tells what is wrong with it first, and where.
package read

import (
	"strconv"
	"strings"

	"pupil/api"
	"pupil/datum"
)

// Stop tells why reading went no further, and where.
type Stop struct {
	Reason api.Errno
	Place  int
}

type reader struct {
	text  string
	at    int // the next byte to be read
	depth int // the lists and quotes that are open
}

// Form is a datum of a text that stands in no other, and where it begins.
type Form struct {
	Datum datum.Datum
	Place int
}

// Text reads all forms of a text; the Stop is nil if nothing is wrong with it.
func Text(text string) ([]Form, *Stop) {
	if len(text) > api.MaxText {
		return nil, &Stop{api.ErrLong, 0}
	}
	r := &reader{text: text}
	var forms []Form
	for r.skip(); !r.ended(); r.skip() {
		place := r.at
		d, stop := r.datum()
		if stop != nil {
			return nil, stop
		}
		forms = append(forms, Form{d, place})
	}
	return forms, nil
}

func fail(reason api.Errno, place int) (datum.Datum, *Stop) {
	return datum.Datum{}, &Stop{reason, place}
}

func (r *reader) ended() bool { return r.at == len(r.text) }

// starts tells whether c is the next byte; at the end there is none.
func (r *reader) starts(c byte) bool { return !r.ended() && r.text[r.at] == c }

// skip goes over blanks, newlines and comments.
func (r *reader) skip() {
	for !r.ended() {
		switch r.text[r.at] {
		case ' ', '\n':
			r.at++
		case ';':
			r.skipComment()
		default:
			return
		}
	}
}

func (r *reader) skipComment() {
	for !r.ended() && !r.starts('\n') {
		r.at++
	}
}

// datum reads one datum. Only a text that ends in a list or behind a ' can be at its end here.
func (r *reader) datum() (datum.Datum, *Stop) {
	r.skip()
	if r.ended() {
		return fail(api.ErrEnd, r.at)
	}
	switch c := r.text[r.at]; {
	case c == '(':
		return r.nested(r.list)
	case c == '\'':
		return r.nested(r.quoted)
	case c == '"':
		return r.string()
	case c == '#':
		return r.truth()
	case isWordByte(c):
		return r.word()
	}
	return fail(api.ErrSyntax, r.at)
}

// nested goes over the byte that opens a list or quote and reads the rest of it.
func (r *reader) nested(rest func() (datum.Datum, *Stop)) (datum.Datum, *Stop) {
	if r.depth == api.MaxDepth {
		return fail(api.ErrMany, r.at)
	}
	r.at++
	r.depth++
	d, stop := rest()
	r.depth--
	return d, stop
}

func (r *reader) list() (datum.Datum, *Stop) {
	var members []datum.Datum
	for r.skip(); !r.starts(')'); r.skip() {
		d, stop := r.datum()
		if stop != nil {
			return datum.Datum{}, stop
		}
		members = append(members, d)
	}
	r.at++
	return datum.OfList(members...), nil
}

func (r *reader) quoted() (datum.Datum, *Stop) {
	d, stop := r.datum()
	if stop != nil {
		return datum.Datum{}, stop
	}
	return datum.OfList(datum.OfSymbol("quote"), d), nil
}

func (r *reader) string() (datum.Datum, *Stop) {
	r.at++
	start := r.at
	for !r.ended() && isStringByte(r.text[r.at]) {
		r.at++
	}
	if r.ended() {
		return fail(api.ErrEnd, r.at)
	}
	if !r.starts('"') {
		return fail(api.ErrSyntax, r.at)
	}
	text := r.text[start:r.at]
	r.at++
	return datum.OfString(text), nil
}

func (r *reader) truth() (datum.Datum, *Stop) {
	start := r.at
	r.at++
	isTrue := r.starts('t')
	if !isTrue && !r.starts('f') {
		return fail(api.ErrSyntax, start)
	}
	r.at++
	return r.closed(datum.OfTruth(isTrue))
}

// word reads a number or a symbol. What is wrong with the word itself is told ahead of the byte behind it.
func (r *reader) word() (datum.Datum, *Stop) {
	start := r.at
	for !r.ended() && isWordByte(r.text[r.at]) {
		r.at++
	}
	word := r.text[start:r.at]
	if isNumber(word) {
		n, err := strconv.ParseInt(word, 10, 64)
		if err != nil {
			return fail(api.ErrMany, start)
		}
		return r.closed(datum.OfNumber(n))
	}
	if len(word) > api.MaxWord {
		return fail(api.ErrMany, start)
	}
	return r.closed(datum.OfSymbol(word))
}

// closed answers d, which has just been read, if the byte behind it may stand there.
func (r *reader) closed(d datum.Datum) (datum.Datum, *Stop) {
	if !r.ended() && !mayStandBehind(r.text[r.at]) {
		return fail(api.ErrSyntax, r.at)
	}
	return d, nil
}

func mayStandBehind(c byte) bool { return strings.IndexByte(" \n()'\";", c) >= 0 }

func isStringByte(c byte) bool { return 32 <= c && c <= 126 && c != '"' && c != '\\' }

func isDigit(c byte) bool { return '0' <= c && c <= '9' }

func isWordByte(c byte) bool {
	return 'a' <= c && c <= 'z' || isDigit(c) || strings.IndexByte("+-*/<>=?!_.:", c) >= 0
}

// isNumber tells whether a word has a number's form, however great it is.
func isNumber(word string) bool {
	digits := strings.TrimPrefix(word, "-")
	for i := range len(digits) {
		if !isDigit(digits[i]) {
			return false
		}
	}
	return digits != ""
}
