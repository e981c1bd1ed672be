package expand

import (
	"slices"

	"pupil/datum"
)

// blank is an identifier of a pattern that stands for what it matches.
type blank struct {
	name  identifier
	depth int // of the rows that it stands for; 0 if it stands for one datum
}

// match is what a blank stands for: a datum, or a row.
type match struct {
	datum datum.Datum
	row   []match
}

// A matcher tells whether it matches, and notes in found what its blanks stand for, each at its own index.
type (
	matcher     func(d datum.Datum, around *scope, found []match) bool
	listMatcher func(members []datum.Datum, around *scope, found []match) bool
)

// pattern is what a form is held against.
type pattern struct {
	literals []string
	blanks   []blank
	members  listMatcher // of those behind the first
}

// patternOf takes d as a pattern. Its first member matches anything, and stands for nothing.
func patternOf(d datum.Datum, literals []string) pattern {
	mustHold(len(d.Members) > 0)
	mustHold(identifierOf(d.Members[0]).symbol != dots)
	p := pattern{literals: literals}
	p.members = p.list(d.Members[1:], 0)
	return p
}

// match answers what the blanks stand for, if a macro's use is matched.
func (p pattern) match(d datum.Datum, around *scope) ([]match, bool) {
	found := make([]match, len(p.blanks))
	return found, p.members(d.Members[1:], around, found)
}

// list takes data as the members of a list, in so many rows.
func (p *pattern) list(data []datum.Datum, depth int) listMatcher {
	switch {
	case len(data) == 0:
		return func(members []datum.Datum, _ *scope, _ []match) bool { return len(members) == 0 }
	case len(data) == 2 && isSymbol(data[1], dots):
		return p.row(data[0], depth+1)
	}
	first := p.part(data[0], depth)
	rest := p.list(data[1:], depth)
	return func(members []datum.Datum, around *scope, found []match) bool {
		return len(members) > 0 && first(members[0], around, found) && rest(members[1:], around, found)
	}
}

// row matches any number of members with one pattern. Its blanks have indexes that follow each other, as they are found here one after the other.
func (p *pattern) row(d datum.Datum, depth int) listMatcher {
	from := len(p.blanks)
	each := p.part(d, depth)
	count := len(p.blanks) - from
	return func(members []datum.Datum, around *scope, found []match) bool {
		rows := make([]match, count)
		for _, member := range members {
			if !each(member, around, found) {
				return false
			}
			for i := range rows {
				rows[i].row = append(rows[i].row, found[from+i])
			}
		}
		copy(found[from:], rows)
		return true
	}
}

func (p *pattern) part(d datum.Datum, depth int) matcher {
	switch d.Kind {
	case datum.Symbol:
		return p.identifier(identifierOf(d), depth)
	case datum.List:
		members := p.list(d.Members, depth)
		return func(d datum.Datum, around *scope, found []match) bool {
			return d.Kind == datum.List && members(d.Members, around, found)
		}
	}
	return func(other datum.Datum, _ *scope, _ []match) bool {
		return other.Kind == d.Kind && other.Number == d.Number && other.Truth == d.Truth && other.Text == d.Text
	}
}

func (p *pattern) identifier(name identifier, depth int) matcher {
	mustHold(name.symbol != dots)
	switch {
	case slices.Contains(p.literals, name.symbol):
		return literal(name.symbol)
	case name.symbol == "_":
		return func(datum.Datum, *scope, []match) bool { return true }
	}
	mustHold(!slices.ContainsFunc(p.blanks, func(b blank) bool { return b.name == name }))
	at := len(p.blanks)
	p.blanks = append(p.blanks, blank{name, depth})
	return func(d datum.Datum, _ *scope, found []match) bool {
		found[at] = match{datum: d}
		return true
	}
}

// literal matches a symbol that is no variable where it stands.
func literal(symbol string) matcher {
	return func(d datum.Datum, around *scope, _ []match) bool {
		if !isSymbol(d, symbol) {
			return false
		}
		_, bound := around.find(identifierOf(d))
		return !bound
	}
}
