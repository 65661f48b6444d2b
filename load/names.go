package load

import "trefoil/api"

// names are the names of a type's variables, as they come; a type that may be.
func names(t *api.Type) []string {
	var list []string
	known := map[string]struct{}{} // those that are bound, wherever that is, and those that are in the list
	each(t, api.TAs, func(name string) { known[name] = struct{}{} })
	each(t, api.TVar, func(name string) {
		if _, ok := known[name]; !ok {
			known[name] = struct{}{}
			list = append(list, name)
		}
	})
	return list
}

// each does something with the names of a type's parts of a Kind, from the left.
func each(t *api.Type, kind int, do func(name string)) {
	if t.Kind == kind {
		do(t.S)
	}
	for i := range t.Args {
		each(&t.Args[i], kind, do)
	}
}
