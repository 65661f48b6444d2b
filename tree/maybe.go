package tree

import (
	"trefoil/api"
	"trefoil/lex"
)

// exprMayBe says whether an expression may be, what is in its parts, types and members aside. What its kind has is taken off, field by field; nothing may be left then.
func exprMayBe(e api.Expr) bool {
	ok := true
	switch e.Kind {
	case api.Unit:
	case api.Bool:
		ok = e.N <= 1
		fallthrough
	case api.Num:
		ok = ok && e.N >= 0
		e.N = 0
	case api.Text:
		ok = len(e.S) <= api.MaxText
		e.S = ""
	case api.Rec:
		ok = beginsWithFun(e.Args)
		fallthrough
	case api.Let:
		ok = ok && takeName(&e.S)
		fallthrough
	case api.App, api.Pair, api.Seq:
		ok = ok && take(&e.Args, 2)
	case api.If:
		ok = take(&e.Args, 3)
	case api.Op:
		ok = takeOp(&e.S) && take(&e.Args, 2)
	case api.Fun, api.Send, api.Set:
		ok = len(e.Args) == 1
		fallthrough
	case api.New:
		e.Args = nil
		fallthrough
	case api.Var:
		ok = ok && takeName(&e.S)
	case api.Object:
		ok = e.S == "" || takeName(&e.S)
		e.Members = nil
	case api.Clone:
		ok = take(&e.Args, len(e.Names)) && takeNames(&e.Names)
	case api.Annot:
		ok = take(&e.Types, 1) && take(&e.Args, 1)
	case api.Coerce:
		ok = take(&e.Types, 2) && take(&e.Args, 1)
	default:
		return false
	}
	return ok && nothingLeft(e)
}

func nothingLeft(e api.Expr) bool {
	return e.S == "" && e.N == 0 && len(e.Args) == 0 && len(e.Names) == 0 && len(e.Types) == 0 && len(e.Members) == 0
}

func membersMayBe(members []api.Member) bool {
	for _, m := range members {
		if !memberMayBe(m) {
			return false
		}
	}
	return true
}

// memberMayBe says whether a member may be, what is in its parts and types aside.
func memberMayBe(m api.Member) bool {
	ok := true
	switch m.Kind {
	case api.Inherit:
		ok = m.As == "" || takeName(&m.As)
		m.Args = nil
	case api.Val, api.Method:
		ok = take(&m.Args, 1)
	case api.Virtual:
		ok = take(&m.Types, 1)
	default:
		return false
	}
	return ok && lex.IsName(m.Name) && m.As == "" && len(m.Args) == 0 && len(m.Types) == 0
}

// typeMayBe says whether a type may be, what is in its parts aside.
func typeMayBe(t api.Type) bool {
	ok := true
	switch t.Kind {
	case api.TAs:
		ok = take(&t.Args, 1)
		fallthrough
	case api.TVar:
		ok = ok && takeWord(&t.S)
	case api.TCon:
		size, known := argsOf(t.S)
		ok = known && take(&t.Args, size)
		t.S = ""
	case api.TObj:
		ok = take(&t.Args, len(t.Labels)) && rise(t.Labels) && takeNames(&t.Labels)
		t.Open = false
	default:
		return false
	}
	return ok && t.S == "" && len(t.Args) == 0 && len(t.Labels) == 0 && !t.Open
}

// argsOf is how many Args a TCon has; false, if there is none of that name.
func argsOf(con string) (int, bool) {
	switch con {
	case "int", "bool", "string", "unit":
		return 0, true
	case "->", "*":
		return 2, true
	}
	return 0, false
}

func beginsWithFun(args []api.Expr) bool {
	return len(args) > 0 && args[0].Kind == api.Fun
}

func rise(labels []string) bool {
	for i := 1; i < len(labels); i++ {
		if labels[i-1] >= labels[i] {
			return false
		}
	}
	return true
}

// take takes a list off, and says whether it had so many items.
func take[T any](list *[]T, size int) bool {
	ok := len(*list) == size
	*list = nil
	return ok
}

// takeNames takes a list off, and says whether its items are names.
func takeNames(list *[]string) bool {
	for _, s := range *list {
		if !lex.IsName(s) {
			return false
		}
	}
	*list = nil
	return true
}

// takeName takes a text off, and says whether it was a name; takeWord, a word; takeOp, an op.
func takeName(s *string) bool {
	ok := lex.IsName(*s)
	*s = ""
	return ok
}

func takeWord(s *string) bool {
	ok := lex.IsName(*s) || lex.IsKey(*s)
	*s = ""
	return ok
}

func takeOp(s *string) bool {
	op := *s
	*s = ""
	switch op {
	case "+", "-", "*", "/", "=", "<":
		return true
	}
	return false
}
