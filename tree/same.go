package tree

import (
	"slices"

	"trefoil/api"
)

// sameTypes says whether two walks come to the same types. Both have equally many at each step, since sameType holds the lists' lengths against each other.
func sameTypes(v, w *walk[api.Type]) bool {
	for v.more() {
		x, _ := nextType(v)
		y, _ := nextType(w)
		if !sameType(x, y) {
			return false
		}
	}
	return true
}

// sameType, sameExpr and sameMember leave what is in the parts aside, but not how many there are.
func sameType(a, b *api.Type) bool {
	return a.Kind == b.Kind && a.S == b.S && a.Open == b.Open &&
		len(a.Args) == len(b.Args) && slices.Equal(a.Labels, b.Labels)
}

func sameExpr(a, b *api.Expr) bool {
	return a.Kind == b.Kind && a.S == b.S && a.N == b.N &&
		len(a.Args) == len(b.Args) && len(a.Types) == len(b.Types) &&
		slices.Equal(a.Names, b.Names) && slices.EqualFunc(a.Members, b.Members, sameMember)
}

func sameMember(a, b api.Member) bool {
	return a.Kind == b.Kind && a.Name == b.Name && a.As == b.As &&
		len(a.Args) == len(b.Args) && len(a.Types) == len(b.Types)
}
