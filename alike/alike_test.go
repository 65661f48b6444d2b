package alike_test

import (
	"slices"
	"testing"

	"trefoil/alike"
	"trefoil/api"
)

func con(name string, args ...int) api.Node {
	return api.Node{Kind: api.NCon, Name: name, Args: args}
}

func object(open bool, labels []string, args ...int) api.Node {
	return api.Node{Kind: api.NObj, Labels: labels, Args: args, Open: open}
}

// Layer 9's tests hold this to all that chapter 9 says; here are a few of each sort.
func TestLeast(t *testing.T) {
	v, integer, m := api.Node{Kind: api.NVar}, con("int"), []string{"m"}
	for _, x := range []struct {
		nodes []api.Node
		want  []int
	}{
		{nil, []int{}}, {[]api.Node{v}, []int{0}}, {[]api.Node{v, v}, []int{0, 1}}, {[]api.Node{integer, con("bool"), integer}, []int{0, 1, 0}},
		{[]api.Node{con("->", 1, 2), integer, con("->", 3, 0), integer}, []int{0, 1, 0, 1}}, {[]api.Node{con("->", 1, 1), integer, con("*", 1, 1), con("->", 1, 2)}, []int{0, 1, 2, 3}},
		{[]api.Node{object(false, m, 1), object(false, m, 2), object(false, m, 0)}, []int{0, 0, 0}}, {[]api.Node{object(false, m, 1), object(true, m, 1)}, []int{0, 1}}, {[]api.Node{object(true, m, 0), object(true, m, 0)}, []int{0, 1}}, {[]api.Node{object(false, m, 0), object(false, []string{"n"}, 0), object(false, []string{"m", "n"}, 0, 1), object(false, []string{"m", "n"}, 3, 1)}, []int{0, 1, 2, 3}},
		// Two types, the one behind the other, that go round in two nodes and in three.
		{[]api.Node{con("->", 1, 1), con("->", 0, 0), con("->", 3, 4), con("->", 4, 2), con("->", 2, 3)}, []int{0, 0, 0, 0, 0}}, {[]api.Node{con("->", 1, 0), integer, con("->", 3, 4), integer, con("->", 1, 2)}, []int{0, 1, 0, 1, 0}},
	} {
		if got := alike.Least(x.nodes); !slices.Equal(got, x.want) {
			t.Errorf("Least(%v) = %v, want %v", x.nodes, got, x.want)
		}
	}
}
