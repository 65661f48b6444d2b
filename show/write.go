package show

import (
	"strconv"
	"strings"

	"trefoil/api"
	"trefoil/lex"
	"trefoil/typ"
)

// A writer writes what may be: whether it may is asked ahead.
type writer struct{ strings.Builder }

func (w *writer) phrase(p api.Phrase) {
	switch p.Kind {
	case api.PLet:
		w.WriteString("let " + p.Name + " = ")
	case api.PRec:
		w.WriteString("let rec " + p.Name + " = ")
	case api.PClass:
		w.WriteString("class " + p.Name)
		for _, name := range p.Names {
			w.WriteString(" " + name)
		}
		w.WriteString(" = ")
	}
	w.expr(p.E, anExpression)
}

// expr writes an expression where one of a level is asked.
func (w *writer) expr(e api.Expr, level int) {
	if own(e) < level {
		w.WriteByte('(')
		defer func() { w.WriteByte(')') }()
	}
	switch e.Kind {
	case api.Num:
		w.WriteString(strconv.FormatInt(e.N, 10))
	case api.Bool:
		w.WriteString(strconv.FormatBool(e.N == 1))
	case api.Text:
		w.text(e.S)
	case api.Object:
		w.object(e)
	case api.Clone:
		w.clone(e)
	default:
		w.fill(pattern(e), e.S, e.Args, e.Types)
	}
}

// fill writes a pattern, with a name, parts and types in their places.
func (w *writer) fill(pattern, name string, parts []api.Expr, types []api.Type) {
	for i := range len(pattern) {
		switch c := pattern[i]; c {
		case 'x':
			w.WriteString(name)
		case 'T':
			w.typ(types[0])
			types = types[1:]
		case '0', '1', '2', '3', '4', '5', '6':
			w.expr(parts[0], int(c-'0'))
			parts = parts[1:]
		default:
			w.WriteByte(c)
		}
	}
}

func (w *writer) typ(t api.Type) {
	s, _ := typ.Put(t)
	w.WriteString(s)
}

// text writes a text in pieces that layer 1 puts whatever bytes they are of: of a whole one it may say that it is too long.
func (w *writer) text(s string) {
	const most = (api.MaxText - 2) / 2 // a byte is put as two at most, and two quotes stand around all
	w.WriteByte('"')
	for len(s) > 0 {
		piece := s[:min(len(s), most)]
		s = s[len(piece):]
		put, _ := lex.Put(api.Token{Kind: api.Str, S: piece})
		w.WriteString(put[1 : len(put)-1])
	}
	w.WriteByte('"')
}

func (w *writer) object(e api.Expr) {
	w.WriteString("object ")
	if e.S != "" {
		w.WriteString("(" + e.S + ") ")
	}
	for _, m := range e.Members {
		w.fill(patternOfMember(m), m.Name, m.Args, m.Types)
		if m.As != "" {
			w.WriteString(" as " + m.As)
		}
		w.WriteByte(' ')
	}
	w.WriteString("end")
}

func (w *writer) clone(e api.Expr) {
	w.WriteString("{<")
	ahead := " "
	for i, name := range e.Names {
		w.WriteString(ahead)
		w.fill("x = 2", name, e.Args[i:], nil)
		ahead = " ; "
	}
	w.WriteString(" >}")
}
