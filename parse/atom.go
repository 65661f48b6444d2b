package parse

import "trefoil/api"

// atAtom says whether the token is one that an atom begins with.
func (p *parser) atAtom() bool {
	switch x := p.l[p.at]; x.Kind {
	case api.Int, api.Str, api.Name:
		return true
	case api.Key:
		return x.S == "true" || x.S == "false" || x.S == "object"
	case api.Sym:
		return x.S == "(" || x.S == "{<"
	}
	return false
}

// beginAtom reads what an atom begins with.
func (p *parser) beginAtom() (api.Expr, int, error) {
	if !p.atAtom() {
		return none(p.wrong())
	}
	x := p.l[p.at]
	p.at++
	switch x.Kind {
	case api.Int:
		return api.Expr{Kind: api.Num, N: x.N}, whole, nil
	case api.Str:
		return api.Expr{Kind: api.Text, S: x.S}, whole, nil
	case api.Name:
		return api.Expr{Kind: api.Var, S: x.S}, whole, nil
	}
	switch x.S {
	case "true":
		return api.Expr{Kind: api.Bool, N: 1}, whole, nil
	case "false":
		return api.Expr{Kind: api.Bool}, whole, nil
	case "object":
		return p.beginObject()
	case "{<":
		return p.beginClone()
	}
	return p.beginBrackets()
}

// Brackets are what stands in ( and ).
type brackets struct{}

func (p *parser) beginBrackets() (api.Expr, int, error) {
	if p.takes(api.Sym, ")") {
		return api.Expr{Kind: api.Unit}, whole, nil
	}
	return p.more(brackets{}, anExpression)
}

func (brackets) goOn(p *parser, e api.Expr) (api.Expr, int, error) {
	switch {
	case p.takes(api.Sym, ","):
		return p.more(pair{[]api.Expr{e}}, anExpression)
	case p.takes(api.Sym, ":"):
		return p.typed(e)
	}
	return p.closed(e)
}

// closed is e with a ) behind it.
func (p *parser) closed(e api.Expr) (api.Expr, int, error) {
	if err := p.must(api.Sym, ")"); err != nil {
		return none(err)
	}
	return e, whole, nil
}

// A pair is one whose left part is read.
type pair struct{ left []api.Expr }

func (x pair) goOn(p *parser, e api.Expr) (api.Expr, int, error) {
	return p.closed(api.Expr{Kind: api.Pair, Args: append(x.left, e)})
}

// typed is e with the type, or the two types, behind it.
func (p *parser) typed(e api.Expr) (api.Expr, int, error) {
	t, err := p.typ()
	if err != nil {
		return none(err)
	}
	if !p.takes(api.Sym, ":>") {
		return p.closed(api.Expr{Kind: api.Annot, Args: []api.Expr{e}, Types: []api.Type{t}})
	}
	u, err := p.typ()
	if err != nil {
		return none(err)
	}
	return p.closed(api.Expr{Kind: api.Coerce, Args: []api.Expr{e}, Types: []api.Type{t, u}})
}

// A clone is one, with those of its fields that are read.
type clone struct{ e api.Expr }

func (p *parser) beginClone() (api.Expr, int, error) {
	x := &clone{api.Expr{Kind: api.Clone}}
	if p.takes(api.Sym, ">}") {
		return x.e, whole, nil
	}
	return p.beginField(x)
}

func (p *parser) beginField(x *clone) (api.Expr, int, error) {
	name, err := p.name()
	if err != nil {
		return none(err)
	}
	if err := p.must(api.Sym, "="); err != nil {
		return none(err)
	}
	x.e.Names = append(x.e.Names, name)
	return p.more(x, aOne)
}

func (x *clone) goOn(p *parser, e api.Expr) (api.Expr, int, error) {
	x.e.Args = append(x.e.Args, e)
	if p.takes(api.Sym, ";") {
		return p.beginField(x)
	}
	if err := p.must(api.Sym, ">}"); err != nil {
		return none(err)
	}
	return x.e, whole, nil
}
