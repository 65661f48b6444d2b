package tree

import "trefoil/api"

// A walk comes to all parts of a tree. It keeps what is left in lists of its own, and not in calls within calls: a tree that is handed in may be deeper than those can go.
type walk[T any] struct {
	left []level[T]
}

// A level is items that stand equally deep.
type level[T any] struct {
	items []T
	deep  int
}

// start is a walk through one tree.
func start[T any](root T) walk[T] {
	var w walk[T]
	w.add([]T{root}, 1)
	return w
}

func (w *walk[T]) more() bool { return len(w.left) > 0 }

func (w *walk[T]) add(items []T, deep int) {
	if len(items) > 0 {
		w.left = append(w.left, level[T]{items, deep})
	}
}

// take is one of the items that are left, and how deep it stands.
func (w *walk[T]) take() (*T, int) {
	last := len(w.left) - 1
	l := &w.left[last]
	item, deep := &l.items[0], l.deep
	l.items = l.items[1:]
	if len(l.items) == 0 {
		w.left = w.left[:last]
	}
	return item, deep
}

// nextExpr takes an expression, and leaves its parts to come.
func nextExpr(w *walk[api.Expr]) (*api.Expr, int) {
	e, deep := w.take()
	w.add(e.Args, deep+1)
	for i := range e.Members {
		w.add(e.Members[i].Args, deep+2)
	}
	return e, deep
}

// nextType takes a type, and leaves its parts to come.
func nextType(w *walk[api.Type]) (*api.Type, int) {
	t, deep := w.take()
	w.add(t.Args, deep+1)
	return t, deep
}

// addTypes leaves the types of an expression to come, those of its parts aside.
func addTypes(w *walk[api.Type], e *api.Expr) {
	w.add(e.Types, 1)
	for i := range e.Members {
		w.add(e.Members[i].Types, 1)
	}
}
