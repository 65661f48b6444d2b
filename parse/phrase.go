package parse

import "trefoil/api"

// phrase reads any phrase.
func (p *parser) phrase() (api.Phrase, error) {
	switch {
	case p.takes(api.Key, "class"):
		return p.class()
	case p.takes(api.Key, "let"):
		return p.let()
	}
	return p.expression()
}

// expression reads a phrase that is one.
func (p *parser) expression() (api.Phrase, error) {
	e, err := p.read(anExpression)
	return api.Phrase{Kind: api.PExpr, E: e}, err
}

// class reads one behind its key.
func (p *parser) class() (api.Phrase, error) {
	name, err := p.name()
	if err != nil {
		return api.Phrase{}, err
	}
	x := api.Phrase{Kind: api.PClass, Name: name, Names: p.names()}
	if err := p.must(api.Sym, "="); err != nil {
		return x, err
	}
	if !p.is(api.Key, "object") {
		return x, p.wrong()
	}
	x.E, err = p.read(anAtom)
	return x, err
}

// let reads a phrase behind its let: an in makes an expression of it.
func (p *parser) let() (api.Phrase, error) {
	b, err := p.binding()
	if err != nil {
		return api.Phrase{}, err
	}
	e, err := p.read(anExpression)
	if err != nil {
		return api.Phrase{}, err
	}
	if e, err = b.bound(e); err != nil {
		return api.Phrase{}, err
	}
	if p.takes(api.Key, "in") {
		body, err := p.read(anExpression)
		return api.Phrase{Kind: api.PExpr, E: b.expr(e, body)}, err
	}
	kind := api.PLet
	if b.rec {
		kind = api.PRec
	}
	return api.Phrase{Kind: kind, Name: b.name, E: e}, nil
}
