package typ

import (
	"errors"
	"strconv"
	"strings"

	"trefoil/api"
	"trefoil/tree"
)

var (
	errToken = errors.New("a token with which no type goes on")
	errTwice = errors.New("a label that stood there already")
	errMayBe = errors.New("a type that may not be")
	errDeep  = errors.New("a type that is too deep")
)

// A fault is what is wrong, with the token's place.
type fault struct {
	at  int
	why error
}

func (f *fault) Error() string { return f.why.Error() + " at token " + strconv.Itoa(f.at) }
func (f *fault) Unwrap() error { return f.why }

// The levels of a type, each one's parts being of the next one; and what a type may stand in, beside them.
const (
	aType = iota
	anArrow
	aProduct
	anAtom
	inBrackets
	inField
)

// A frame is something that is begun and not ended yet.
type frame struct {
	level int
	sides []api.Type // of an arrow type or a product: those that a sign is behind
	o     *object    // of a field: the object that has it
}

// A parser reads a type. What is open stands in a list of its own, the innermost last, and not in calls within calls: brackets may go deeper than those can.
type parser struct {
	l    []api.Token
	at   int
	open []frame
}

// checked is the type that the tokens begin with, if it may be.
func (p *parser) checked() (api.Type, error) {
	from := p.at
	t, err := p.read()
	if err != nil {
		return api.Type{}, err
	}
	switch tree.CheckType(t) {
	case api.OK:
		return t, nil
	case api.ErrDeep:
		return api.Type{}, &fault{from, errDeep}
	}
	return api.Type{}, &fault{from, errMayBe}
}

// read is the type that the tokens begin with, whatever its words and its depth.
func (p *parser) read() (api.Type, error) {
	p.expect(aType)
	for {
		t, whole, err := p.begin()
		for whole && len(p.open) > 0 {
			t, whole, err = p.goOn(t)
		}
		if whole || err != nil {
			return t, err
		}
	}
}

// expect opens a level, and those below it: what comes next is the first atom of them all.
func (p *parser) expect(level int) {
	switch level {
	case aType:
		p.push(frame{level: aType})
		fallthrough
	case anArrow:
		p.push(frame{level: anArrow})
		fallthrough
	case aProduct:
		p.push(frame{level: aProduct})
	}
}

// begin reads what an atom begins with: it is whole then, or another type must come first.
func (p *parser) begin() (api.Type, bool, error) {
	switch x := p.l[p.at]; {
	case x.Kind == api.Tick:
		p.at++
		return api.Type{Kind: api.TVar, S: strings.Clone(x.S)}, true, nil
	case x.Kind == api.Name && isPlain(x.S):
		p.at++
		return api.Type{Kind: api.TCon, S: strings.Clone(x.S)}, true, nil
	case p.takes(api.Sym, "("):
		p.push(frame{level: inBrackets})
		p.expect(aType)
		return api.Type{}, false, nil
	case p.takes(api.Sym, "<"):
		return p.beginObject()
	}
	return p.wrong()
}

// goOn hands t, which is whole, to the innermost of what is open.
func (p *parser) goOn(t api.Type) (api.Type, bool, error) {
	last := len(p.open) - 1
	f := p.open[last]
	p.open = p.open[:last]
	switch f.level {
	case aProduct:
		return p.goOnSides(f, t, "*")
	case anArrow:
		return p.goOnSides(f, t, "->")
	case inBrackets:
		if !p.takes(api.Sym, ")") {
			return p.wrong()
		}
		return t, true, nil
	case inField:
		return p.goOnObject(f.o, t)
	}
	return p.goOnNamed(t)
}

// goOnSides goes on behind t, a side of an arrow type or a product: by its sign and another side, or all of them are joined.
func (p *parser) goOnSides(f frame, t api.Type, sign string) (api.Type, bool, error) {
	if !p.takes(api.Sym, sign) {
		return join(sign, f.sides, t), true, nil
	}
	f.sides = append(f.sides, t)
	p.push(f)
	p.expect(f.level + 1)
	return api.Type{}, false, nil
}

func join(sign string, sides []api.Type, t api.Type) api.Type {
	for i := len(sides) - 1; i >= 0; i-- {
		t = api.Type{Kind: api.TCon, S: sign, Args: []api.Type{sides[i], t}}
	}
	return t
}

// goOnNamed goes on behind t, an arrow type, by the names that it is bound to.
func (p *parser) goOnNamed(t api.Type) (api.Type, bool, error) {
	for p.takes(api.Key, "as") {
		x := p.l[p.at]
		if x.Kind != api.Tick {
			return p.wrong()
		}
		p.at++
		t = api.Type{Kind: api.TAs, S: strings.Clone(x.S), Args: []api.Type{t}}
	}
	// They belong to the type in any case, but no type goes on so behind an as.
	if p.is(api.Sym, "->") || p.is(api.Sym, "*") {
		return p.wrong()
	}
	return t, true, nil
}

func (p *parser) push(f frame) { p.open = append(p.open, f) }

func (p *parser) is(kind int, s string) bool {
	return p.l[p.at].Kind == kind && p.l[p.at].S == s
}

// takes goes on behind the token, if it is that one.
func (p *parser) takes(kind int, s string) bool {
	if !p.is(kind, s) {
		return false
	}
	p.at++
	return true
}

func (p *parser) wrong() (api.Type, bool, error) {
	return api.Type{}, false, &fault{p.at, errToken}
}

// isPlain says whether a name is that of a type by itself.
func isPlain(s string) bool {
	switch s {
	case "int", "bool", "string", "unit":
		return true
	}
	return false
}
