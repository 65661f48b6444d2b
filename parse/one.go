package parse

import "trefoil/api"

// beginOne begins one that has a token of its own for that, and answers the level of its first part: whole, if there is no such token.
func (p *parser) beginOne() (int, error) {
	switch x := p.l[p.at]; {
	case p.takes(api.Key, "let"):
		b, err := p.binding()
		if err != nil {
			return whole, err
		}
		p.push(&let{binding: b})
		return anExpression, nil
	case p.takes(api.Key, "fun"):
		return p.beginFun()
	case p.takes(api.Key, "if"):
		p.push(&choice{})
		return anExpression, nil
	case x.Kind == api.Name && isArrow(p.l[p.at+1]):
		p.at += 2
		p.push(setting{x.S})
		return aOne, nil
	}
	return whole, nil
}

func isArrow(t api.Token) bool { return t.Kind == api.Sym && t.S == "<-" }

// A binding is what stands ahead of a let's expression.
type binding struct {
	rec   bool
	at    int // its name's place in the text
	name  string
	names []string
}

// binding reads one behind its let.
func (p *parser) binding() (binding, error) {
	b := binding{rec: p.takes(api.Key, "rec"), at: p.l[p.at].At}
	var err error
	if b.name, err = p.name(); err != nil {
		return b, err
	}
	b.names = p.names()
	return b, p.must(api.Sym, "=")
}

// bound is what the name is bound to by e: of a rec it must be a function.
func (b *binding) bound(e api.Expr) (api.Expr, error) {
	e = funs(b.names, e)
	if b.rec && e.Kind != api.Fun {
		return api.Expr{}, &fault{b.at, errNoFun}
	}
	return e, nil
}

func (b *binding) expr(bound, body api.Expr) api.Expr {
	kind := api.Let
	if b.rec {
		kind = api.Rec
	}
	return api.Expr{Kind: kind, S: b.name, Args: []api.Expr{bound, body}}
}

// funs is e behind names as functions, the first one outside.
func funs(names []string, e api.Expr) api.Expr {
	for i := len(names) - 1; i >= 0; i-- {
		e = api.Expr{Kind: api.Fun, S: names[i], Args: []api.Expr{e}}
	}
	return e
}

// A let is one within an expression.
type let struct {
	binding
	value []api.Expr // what its name is bound to, if it is read
}

func (x *let) goOn(p *parser, e api.Expr) (api.Expr, int, error) {
	if len(x.value) > 0 {
		return x.expr(x.value[0], e), whole, nil
	}
	e, err := x.bound(e)
	if err != nil {
		return none(err)
	}
	if err := p.must(api.Key, "in"); err != nil {
		return none(err)
	}
	x.value = []api.Expr{e}
	return p.more(x, anExpression)
}

// A function is a fun, by its names.
type function []string

func (p *parser) beginFun() (int, error) {
	name, err := p.name()
	if err != nil {
		return whole, err
	}
	names := append([]string{name}, p.names()...)
	p.push(function(names))
	return anExpression, p.must(api.Sym, "->")
}

func (x function) goOn(p *parser, e api.Expr) (api.Expr, int, error) {
	return funs(x, e), whole, nil
}

// A choice is an if, by those of its parts that are read.
type choice struct{ parts []api.Expr }

func (x *choice) goOn(p *parser, e api.Expr) (api.Expr, int, error) {
	x.parts = append(x.parts, e)
	key := "then"
	switch len(x.parts) {
	case 3:
		return api.Expr{Kind: api.If, Args: x.parts}, whole, nil
	case 2:
		key = "else"
	}
	if err := p.must(api.Key, key); err != nil {
		return none(err)
	}
	return p.more(x, aOne)
}

// A setting is that of a name.
type setting struct{ name string }

func (x setting) goOn(p *parser, e api.Expr) (api.Expr, int, error) {
	return api.Expr{Kind: api.Set, S: x.name, Args: []api.Expr{e}}, whole, nil
}
