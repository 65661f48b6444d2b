package show

import (
	"strings"

	"trefoil/api"
)

// The levels of an expression, by the numbers that patterns tell them by.
const (
	anExpression = iota
	aOne
	aComparison
	aSum
	aProduct
	anApplication
	aSend
)

// own is an expression's own level.
func own(e api.Expr) int {
	switch e.Kind {
	case api.Seq:
		return anExpression
	case api.Let, api.Rec, api.Fun, api.If, api.Set:
		return aOne
	case api.Op:
		return ownOfOp(e.S)
	case api.App, api.New:
		return anApplication
	}
	return aSend
}

func ownOfOp(sign string) int {
	switch sign {
	case "+", "-":
		return aSum
	case "*", "/":
		return aProduct
	}
	return aComparison
}

// pattern is an expression's text with its parts left out: a digit stands for the next part, at the level of that number, T for the next type, x for the name. (Names stand in no pattern, and no key has an x.)
func pattern(e api.Expr) string {
	switch e.Kind {
	case api.Unit:
		return "()"
	case api.Fun:
		return "fun x -> 0"
	case api.App:
		if e.Args[0].Kind == api.New {
			return "6 6" // what follows a new without brackets is its own
		}
		return "5 6"
	case api.Let:
		return "let x = 0 in 0"
	case api.Rec:
		return "let rec x = 0 in 0"
	case api.Pair:
		return "(0, 0)"
	case api.If:
		return "if 0 then 2 else 2"
	case api.Op:
		return patternOfOp(e.S)
	case api.Seq:
		return "2 ; 0"
	case api.Send:
		return "6#x"
	case api.Set:
		return "x <- 2"
	case api.New:
		return "new x" + sends(e.Args)
	case api.Annot:
		return "(0 : T)"
	case api.Coerce:
		return "(0 : T :> T)"
	}
	return "x"
}

func patternOfOp(sign string) string {
	switch ownOfOp(sign) {
	case aSum:
		return "3 x 4"
	case aProduct:
		return "4 x 5"
	}
	return "3 x 3"
}

func patternOfMember(m api.Member) string {
	switch m.Kind {
	case api.Inherit:
		return "inherit x" + sends(m.Args)
	case api.Val:
		return "val x = 0"
	case api.Method:
		return "method x = 0"
	}
	return "virtual x : T"
}

// sends is the pattern of parts that stand behind a name.
func sends(parts []api.Expr) string { return strings.Repeat(" 6", len(parts)) }
