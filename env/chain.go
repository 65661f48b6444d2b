package env

import (
	"iter"
	"slices"
	"strings"
)

// meaning is what a name means.
type meaning[T any] struct {
	name string
	is   T
}

// chain is meanings, in lists of names that rise: the last ones, and behind these what was there before them. Each list is at least twice as long as the one that it stands behind, so that there are few however many names there are, and at least half of the meanings that are kept still count. Nil is a chain of none.
type chain[T any] struct {
	list   []meaning[T]
	behind *chain[T]
}

// lists goes through a chain's lists, the last meanings first.
func (c *chain[T]) lists() iter.Seq[[]meaning[T]] {
	return func(yield func([]meaning[T]) bool) {
		for link := c; link != nil && yield(link.list); link = link.behind {
		}
	}
}

// find is a name's last meaning; false, if it has none.
func (c *chain[T]) find(name string) (T, bool) {
	for list := range c.lists() {
		if at, found := search(list, name); found {
			return list[at].is, true
		}
	}
	var none T
	return none, false
}

// names are all names that mean something, rising.
func (c *chain[T]) names() []string {
	var names []string
	for list := range c.lists() {
		for _, m := range list {
			names = append(names, m.name)
		}
	}
	slices.Sort(names)
	return slices.Compact(names)
}

// with is a chain in which a name means something else. The one that was is left as it is.
func (c *chain[T]) with(name string, is T) *chain[T] {
	list := []meaning[T]{{name, is}}
	for c != nil && len(c.list) < 2*len(list) {
		list = merged(list, c.list)
		c = c.behind
	}
	return &chain[T]{list, c}
}

// search is where a name stands in a list, or would stand; false, if it doesn't.
func search[T any](list []meaning[T], name string) (int, bool) {
	return slices.BinarySearchFunc(list, name, func(m meaning[T], name string) int {
		return strings.Compare(m.name, name)
	})
}

// merged is a list of the names of two; what the later one says of a name counts.
func merged[T any](later, earlier []meaning[T]) []meaning[T] {
	all := make([]meaning[T], 0, len(later)+len(earlier))
	for _, m := range later {
		at, found := search(earlier, m.name)
		all = append(append(all, earlier[:at]...), m)
		if found {
			at++
		}
		earlier = earlier[at:]
	}
	return append(all, earlier...)
}
