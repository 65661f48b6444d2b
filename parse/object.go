package parse

import "trefoil/api"

// An object is one, with those of its members that are begun.
type object struct {
	e     api.Expr
	names []string // the last member's, if it is a method
}

// beginObject goes on behind the key object.
func (p *parser) beginObject() (api.Expr, int, error) {
	o := &object{e: api.Expr{Kind: api.Object}}
	if p.takes(api.Sym, "(") {
		name, err := p.name()
		if err != nil {
			return none(err)
		}
		if err := p.must(api.Sym, ")"); err != nil {
			return none(err)
		}
		o.e.S = name
	}
	return p.goOnMembers(o)
}

// goOnMembers reads members, up to one that has a part, or the end.
func (p *parser) goOnMembers(o *object) (api.Expr, int, error) {
	for !p.takes(api.Key, "end") {
		next, err := p.beginMember(o)
		if err != nil {
			return none(err)
		}
		if next != whole {
			return p.more(o, next)
		}
	}
	return o.e, whole, nil
}

// beginMember reads a member up to its first part, and answers that one's level: whole, if it has none.
func (p *parser) beginMember(o *object) (int, error) {
	kind := kindOf(p.l[p.at])
	if kind == 0 {
		return whole, p.wrong()
	}
	p.at++
	name, err := p.name()
	if err != nil {
		return whole, err
	}
	o.e.Members = append(o.e.Members, api.Member{Kind: kind, Name: name})
	o.names = nil
	switch kind {
	case api.Inherit:
		return p.goOnInherit(o)
	case api.Virtual:
		return whole, p.endVirtual(o)
	case api.Method:
		o.names = p.names()
	}
	return anExpression, p.must(api.Sym, "=")
}

// kindOf is the kind of the member that a token begins: 0, if it begins none.
func kindOf(t api.Token) int {
	if t.Kind != api.Key {
		return 0
	}
	switch t.S {
	case "inherit":
		return api.Inherit
	case "val":
		return api.Val
	case "method":
		return api.Method
	case "virtual":
		return api.Virtual
	}
	return 0
}

func (o *object) last() *api.Member { return &o.e.Members[len(o.e.Members)-1] }

// goOnInherit asks for another send, or ends the member.
func (p *parser) goOnInherit(o *object) (int, error) {
	if p.atAtom() {
		return aSend, nil
	}
	if !p.takes(api.Key, "as") {
		return whole, nil
	}
	var err error
	o.last().As, err = p.name()
	return whole, err
}

func (p *parser) endVirtual(o *object) error {
	if err := p.must(api.Sym, ":"); err != nil {
		return err
	}
	t, err := p.typ()
	o.last().Types = []api.Type{t}
	return err
}

func (o *object) goOn(p *parser, e api.Expr) (api.Expr, int, error) {
	m := o.last()
	m.Args = append(m.Args, funs(o.names, e))
	if m.Kind == api.Inherit {
		next, err := p.goOnInherit(o)
		if err != nil {
			return none(err)
		}
		if next != whole {
			return p.more(o, next)
		}
	}
	return p.goOnMembers(o)
}
