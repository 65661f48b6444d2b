package parse

import (
	"errors"
	"strconv"

	"trefoil/api"
	"trefoil/typ"
)

var (
	errToken = errors.New("a token with which no phrase goes on")
	errNoFun = errors.New("a rec of what is no fun")
	errType  = errors.New("a token with which no type goes on")
	errDeep  = errors.New("a type that is too deep")
)

// A fault is what is wrong, with its place in the text.
type fault struct {
	at  int
	why error
}

func (f *fault) Error() string { return f.why.Error() + " at " + strconv.Itoa(f.at) }
func (f *fault) Unwrap() error { return f.why }

// The levels of an expression, each one's parts being of the next one; whole stands for nothing that is still to be read.
const (
	whole = iota
	anExpression
	aOne
	aSum
	aProduct
	anApplication
	aSend
	anAtom
)

// An unfinished thing is begun and not ended yet. It goes on by e, its next part: it is an expression then, whole, or it asks for another part, of a level.
type unfinished interface {
	goOn(p *parser, e api.Expr) (api.Expr, int, error)
}

// A parser reads a phrase's tokens. What is unfinished stands in a list of its own, the innermost last, and not in calls within calls: brackets may go deeper than those can.
type parser struct {
	l    []api.Token
	at   int
	open []unfinished
}

// read is the expression of a level that the tokens go on with, whatever its depth.
func (p *parser) read(level int) (api.Expr, error) {
	e, next, err := p.begin(level)
	for err == nil && (next != whole || len(p.open) > 0) {
		if next != whole {
			e, next, err = p.begin(next)
		} else {
			last := len(p.open) - 1
			x := p.open[last]
			p.open = p.open[:last]
			e, next, err = x.goOn(p, e)
		}
	}
	return e, err
}

// begin reads what an expression of a level begins with: it opens the levels below it, too, since all may begin with one atom.
func (p *parser) begin(level int) (api.Expr, int, error) {
	switch level {
	case anExpression:
		p.push(&sequence{})
		fallthrough
	case aOne:
		if next, err := p.beginOne(); next != whole || err != nil {
			return api.Expr{}, next, err
		}
		p.push(&operation{level: aOne})
		fallthrough
	case aSum:
		p.push(&operation{level: aSum})
		fallthrough
	case aProduct:
		p.push(&operation{level: aProduct})
		fallthrough
	case anApplication:
		if p.takes(api.Key, "new") {
			return p.beginNew()
		}
		p.push(&application{})
		fallthrough
	case aSend:
		p.push(sends{})
	}
	return p.beginAtom()
}

func (p *parser) push(x unfinished) { p.open = append(p.open, x) }

// more opens x again, and asks for its next part.
func (p *parser) more(x unfinished, level int) (api.Expr, int, error) {
	p.push(x)
	return api.Expr{}, level, nil
}

func (p *parser) is(kind int, s string) bool {
	return p.l[p.at].Kind == kind && p.l[p.at].S == s
}

// takes goes on behind the token, if it is that one.
func (p *parser) takes(kind int, s string) bool {
	if !p.is(kind, s) {
		return false
	}
	p.at++
	return true
}

// must goes on behind the token, that must be that one.
func (p *parser) must(kind int, s string) error {
	if !p.takes(kind, s) {
		return p.wrong()
	}
	return nil
}

func (p *parser) name() (string, error) {
	x := p.l[p.at]
	if x.Kind != api.Name {
		return "", p.wrong()
	}
	p.at++
	return x.S, nil
}

// names is as many names as there are.
func (p *parser) names() []string {
	var l []string
	for p.l[p.at].Kind == api.Name {
		l = append(l, p.l[p.at].S)
		p.at++
	}
	return l
}

func (p *parser) typ() (api.Type, error) {
	rest := p.l[p.at:]
	t, behind, e := typ.Parse(rest, 0)
	switch e {
	case api.OK:
		p.at += behind
		return t, nil
	case api.ErrDeep:
		return api.Type{}, &fault{0, errDeep}
	}
	return api.Type{}, &fault{rest[behind].At, errType}
}

func (p *parser) wrong() error { return &fault{p.l[p.at].At, errToken} }

// none is what is read where something is wrong.
func none(err error) (api.Expr, int, error) { return api.Expr{}, whole, err }
