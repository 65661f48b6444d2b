package typ

import (
	"strings"

	"trefoil/api"
)

// put puts a type where one of a level may stand.
func put(b *strings.Builder, t api.Type, level int) {
	if levelOf(t) < level {
		b.WriteString("(")
		putBare(b, t)
		b.WriteString(")")
		return
	}
	putBare(b, t)
}

func levelOf(t api.Type) int {
	switch {
	case t.Kind == api.TAs:
		return aType
	case t.Kind == api.TCon && t.S == "->":
		return anArrow
	case t.Kind == api.TCon && t.S == "*":
		return aProduct
	}
	return anAtom
}

func putBare(b *strings.Builder, t api.Type) {
	switch t.Kind {
	case api.TAs:
		put(b, t.Args[0], aType)
		b.WriteString(" as ")
		fallthrough
	case api.TVar:
		b.WriteString("'")
		b.WriteString(t.S)
	case api.TObj:
		putObject(b, t)
	case api.TCon:
		putCon(b, t)
	}
}

func putCon(b *strings.Builder, t api.Type) {
	if len(t.Args) == 0 {
		b.WriteString(t.S)
		return
	}
	level := levelOf(t)
	put(b, t.Args[0], level+1)
	b.WriteString(" " + t.S + " ")
	put(b, t.Args[1], level)
}

func putObject(b *strings.Builder, t api.Type) {
	b.WriteString("<")
	ahead := " "
	for i, label := range t.Labels {
		b.WriteString(ahead + label + " : ")
		put(b, t.Args[i], anArrow)
		ahead = " ; "
	}
	if t.Open {
		b.WriteString(ahead + "..")
	}
	b.WriteString(" >")
}
