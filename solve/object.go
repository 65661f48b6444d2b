package solve

import (
	"slices"

	"trefoil/api"
)

// An object is what a class's objects have, all together.
type object struct {
	labels []string       // in the order in which they came, so that nothing hangs on that of the map
	args   map[string]int // of each label a node that is its Arg
	open   bool
}

// object is what a class's objects have.
func (s *solver) object(c *class) *object {
	if c.all != nil {
		return c.all
	}
	n := &s.nodes[c.is]
	o := object{labels: slices.Clone(n.Labels), args: make(map[string]int, len(n.Labels)), open: n.Open}
	for i, label := range n.Labels {
		o.args[label] = n.Args[i]
	}
	return &o
}

// joinObjects makes x have what the objects of both classes have, and leaves what both have to come. The one that has less is put to the one that has more, so that no label is moved very often.
func (s *solver) joinObjects(x, y *class) error {
	more, less := s.object(x), s.object(y)
	if len(more.labels) < len(less.labels) {
		more, less = less, more
	}
	for _, label := range less.labels {
		arg := less.args[label]
		other, both := more.args[label]
		switch {
		case both:
			s.left = append(s.left, [2]int{arg, other})
		case more.open:
			more.labels, more.args[label] = append(more.labels, label), arg
		default:
			return errLabels
		}
	}
	if !less.open && len(less.labels) < len(more.labels) {
		return errLabels
	}
	more.open = more.open && less.open
	x.is, x.all = min(x.is, y.is), more
	return nil
}

// node is a node that has what the objects have, its labels in order.
func (o *object) node() api.Node {
	labels := slices.Sorted(slices.Values(o.labels))
	args := make([]int, len(labels))
	for i, label := range labels {
		args[i] = o.args[label]
	}
	return api.Node{Kind: api.NObj, Labels: labels, Args: args, Open: o.open}
}
