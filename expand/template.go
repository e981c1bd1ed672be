package expand

import (
	"slices"

	"pupil/datum"
	"pupil/meter"
)

// use is a macro's use that was matched.
type use struct {
	found []match // what the pattern's blanks stand for
	mark  int
	parts *meter.Meter // of what is made of it
}

// maker puts what a member of a template makes behind what was made ahead of it.
type maker func(made []datum.Datum, u use) []datum.Datum

// template is one that is being looked through.
type template struct {
	blanks []blank // of the pattern
	rows   []int   // the indexes of the blanks that stand for rows, as they were come upon
}

// templateOf takes d as the template of a pattern that has these blanks. It makes one datum.
func templateOf(d datum.Datum, blanks []blank) maker {
	t := template{blanks: blanks}
	return t.part(d, 0)
}

// part makes one datum; it stands in so many members with dots.
func (t *template) part(d datum.Datum, deep int) maker {
	switch d.Kind {
	case datum.Symbol:
		return t.identifier(d, deep)
	case datum.List:
		members := t.members(d.Members, deep)
		return func(made []datum.Datum, u use) []datum.Datum {
			u.parts.Take(1)
			return append(made, datum.OfList(members(nil, u)...))
		}
	}
	return func(made []datum.Datum, u use) []datum.Datum {
		u.parts.Take(1)
		return append(made, d)
	}
}

func (t *template) identifier(d datum.Datum, deep int) maker {
	name := identifierOf(d)
	mustHold(name.symbol != dots)
	at := slices.IndexFunc(t.blanks, func(b blank) bool { return b.name == name })
	if at < 0 {
		return func(made []datum.Datum, u use) []datum.Datum {
			u.parts.Take(1)
			marked := d
			marked.Mark = u.mark
			return append(made, marked)
		}
	}
	if depth := t.blanks[at].depth; depth > 0 {
		mustHold(depth == deep)
		t.rows = append(t.rows, at)
	}
	return func(made []datum.Datum, u use) []datum.Datum {
		u.parts.Take(datum.CountParts(u.found[at].datum))
		return append(made, u.found[at].datum)
	}
}

func (t *template) members(data []datum.Datum, deep int) maker {
	var makers []maker
	for len(data) > 0 {
		if len(data) > 1 && isSymbol(data[1], dots) {
			makers = append(makers, t.repeated(data[0], deep+1))
			data = data[2:]
			continue
		}
		makers = append(makers, t.part(data[0], deep))
		data = data[1:]
	}
	return func(made []datum.Datum, u use) []datum.Datum {
		for _, makes := range makers {
			made = makes(made, u)
		}
		return made
	}
}

// repeated makes as many data as the rows of the blanks in d have members.
func (t *template) repeated(d datum.Datum, deep int) maker {
	from := len(t.rows)
	each := t.part(d, deep)
	rows := t.rows[from:]
	mustHold(len(rows) > 0)
	return func(made []datum.Datum, u use) []datum.Datum {
		for i := range lengthOf(rows, u.found) {
			inner := u
			inner.found = slices.Clone(u.found)
			for _, at := range rows {
				inner.found[at] = u.found[at].row[i]
			}
			made = each(made, inner)
		}
		return made
	}
}

// lengthOf answers how long the rows are, all of them.
func lengthOf(rows []int, found []match) int {
	length := len(found[rows[0]].row)
	for _, at := range rows {
		mustHold(len(found[at].row) == length)
	}
	return length
}
