package typ

import (
	"slices"
	"strings"

	"trefoil/api"
)

// An object is one that is being read.
type object struct {
	fields []field
	known  map[string]struct{} // the fields' labels
}

// A field is one of them, and where its label stands.
type field struct {
	label string
	at    int
	t     api.Type
}

// beginObject goes on behind the < of an object.
func (p *parser) beginObject() (api.Type, bool, error) {
	o := &object{known: map[string]struct{}{}}
	if p.is(api.Sym, ">") {
		return p.endObject(o, false)
	}
	return p.beginField(o)
}

// beginField reads a field up to its type, or the .. in place of the last one.
func (p *parser) beginField(o *object) (api.Type, bool, error) {
	if p.takes(api.Sym, "..") {
		return p.endObject(o, true)
	}
	x := p.l[p.at]
	if x.Kind != api.Name {
		return p.wrong()
	}
	o.fields = append(o.fields, field{label: strings.Clone(x.S), at: p.at})
	p.at++
	if !p.takes(api.Sym, ":") {
		return p.wrong()
	}
	p.push(frame{level: inField, o: o})
	p.expect(anArrow)
	return api.Type{}, false, nil
}

// goOnObject goes on behind t, the last field's type.
func (p *parser) goOnObject(o *object, t api.Type) (api.Type, bool, error) {
	f := &o.fields[len(o.fields)-1]
	if _, twice := o.known[f.label]; twice {
		return api.Type{}, false, &fault{f.at, errTwice}
	}
	o.known[f.label] = struct{}{}
	f.t = t
	if p.takes(api.Sym, ";") {
		return p.beginField(o)
	}
	return p.endObject(o, false)
}

func (p *parser) endObject(o *object, open bool) (api.Type, bool, error) {
	if !p.takes(api.Sym, ">") {
		return p.wrong()
	}
	slices.SortFunc(o.fields, func(a, b field) int { return strings.Compare(a.label, b.label) })
	t := api.Type{Kind: api.TObj, Open: open}
	for _, f := range o.fields {
		t.Labels = append(t.Labels, f.label)
		t.Args = append(t.Args, f.t)
	}
	return t, true, nil
}
