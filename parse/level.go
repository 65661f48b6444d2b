package parse

import "trefoil/api"

// A sequence is ones with ; between.
type sequence struct{ ahead []api.Expr }

func (x *sequence) goOn(p *parser, e api.Expr) (api.Expr, int, error) {
	if p.takes(api.Sym, ";") {
		x.ahead = append(x.ahead, e)
		return p.more(x, aOne)
	}
	for i := len(x.ahead) - 1; i >= 0; i-- {
		e = api.Expr{Kind: api.Seq, Args: []api.Expr{x.ahead[i], e}}
	}
	return e, whole, nil
}

// An operation is a comparison, a sum or a product; and what is one of the next level alone.
type operation struct {
	level int
	sign  string
	left  []api.Expr // the side ahead of the sign, if there is one
}

func (x *operation) goOn(p *parser, e api.Expr) (api.Expr, int, error) {
	if x.sign != "" {
		e = api.Expr{Kind: api.Op, S: x.sign, Args: append(x.left, e)}
	}
	// A comparison has two sides at most.
	if x.level == aOne && x.sign != "" || !p.atSign(x.level) {
		return e, whole, nil
	}
	x.sign = p.l[p.at].S
	x.left = []api.Expr{e}
	p.at++
	return p.more(x, x.level+1)
}

// atSign says whether the token is a sign between sides of a level's parts.
func (p *parser) atSign(level int) bool {
	switch level {
	case aOne:
		return p.is(api.Sym, "=") || p.is(api.Sym, "<")
	case aSum:
		return p.is(api.Sym, "+") || p.is(api.Sym, "-")
	case aProduct:
		return p.is(api.Sym, "*") || p.is(api.Sym, "/")
	}
	return false
}

// An application is sends, one behind the other; and what is one alone.
type application struct {
	ahead []api.Expr // what is applied, if it is read
}

func (x *application) goOn(p *parser, e api.Expr) (api.Expr, int, error) {
	if len(x.ahead) > 0 {
		e = api.Expr{Kind: api.App, Args: append(x.ahead, e)}
	}
	if !p.atAtom() {
		return e, whole, nil
	}
	x.ahead = []api.Expr{e}
	return p.more(x, aSend)
}

// A creation is a new, and sends behind its name.
type creation struct{ e api.Expr }

func (p *parser) beginNew() (api.Expr, int, error) {
	name, err := p.name()
	if err != nil {
		return none(err)
	}
	return p.goOnNew(&creation{api.Expr{Kind: api.New, S: name}})
}

func (x *creation) goOn(p *parser, e api.Expr) (api.Expr, int, error) {
	x.e.Args = append(x.e.Args, e)
	return p.goOnNew(x)
}

func (p *parser) goOnNew(x *creation) (api.Expr, int, error) {
	if p.atAtom() {
		return p.more(x, aSend)
	}
	return x.e, whole, nil
}

// Sends are an atom, and what is sent to it.
type sends struct{}

func (sends) goOn(p *parser, e api.Expr) (api.Expr, int, error) {
	for p.takes(api.Sym, "#") {
		name, err := p.name()
		if err != nil {
			return none(err)
		}
		e = api.Expr{Kind: api.Send, S: name, Args: []api.Expr{e}}
	}
	return e, whole, nil
}
