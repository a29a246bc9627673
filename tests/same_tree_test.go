package tests

import (
	"math/rand"
	"slices"
	"testing"

	"loop.example/s01681/impl"
)

// checkSame asks for SameTree both ways, and that it leaves its arguments as they were.
func checkSame(t *testing.T, a, b impl.Tree, want bool) {
	t.Helper()
	givenA, keptA, givenB, keptB := roomyTree(a), roomyTree(a), roomyTree(b), roomyTree(b)
	if impl.SameTree(givenA, givenB) != want || impl.SameTree(givenB, givenA) != want {
		t.Errorf("SameTree is not %v of %+.300v and %+.300v", want, a, b)
	}
	if !equalRoom(givenA, keptA) || !equalRoom(givenB, keptB) {
		t.Errorf("SameTree wrote into a tree")
	}
	if !impl.SameTree(givenA, givenA) || !impl.SameTree(givenB, givenB) {
		t.Errorf("a tree is not the same as itself")
	}
}

func TestSameTreeByFields(t *testing.T) {
	for _, g := range examples(t) {
		tree := g.tree()
		checkSame(t, tree, cloneTree(tree), true)
		for i := range tree.Nodes {
			for _, c := range []struct {
				change func(n *impl.Node)
				same   bool
			}{
				{func(n *impl.Node) { n.K++ }, false}, {func(n *impl.Node) { n.M-- }, false}, {func(n *impl.Node) { n.N++ }, false}, {func(n *impl.Node) { n.S += "x" }, false}, {func(n *impl.Node) { n.Line++ }, true}, {func(n *impl.Node) { n.Col = -7 }, true}, {func(n *impl.Node) { n.Line, n.Col = 0, 1<<63-1 }, true},
				{func(n *impl.Node) { n.Kids = append(n.Kids, 0) }, false}, {func(n *impl.Node) { n.Kids = append([]int{-1}, n.Kids...) }, false}, {func(n *impl.Node) { n.Kids = append([]int{}, n.Kids...) }, true},
			} {
				other := cloneTree(tree)
				c.change(&other.Nodes[i])
				checkSame(t, tree, other, c.same)
			}
			for j := range tree.Nodes[i].Kids {
				other := cloneTree(tree)
				other.Nodes[i].Kids[j]--
				checkSame(t, tree, other, false)
				other = cloneTree(tree)
				other.Nodes[i].Kids = slices.Delete(other.Nodes[i].Kids, j, j+1)
				checkSame(t, tree, other, false)
			}
			fewer, more := cloneTree(tree), cloneTree(tree)
			fewer.Nodes = slices.Delete(fewer.Nodes, i, i+1)
			more.Nodes = slices.Insert(more.Nodes, i, more.Nodes[i])
			checkSame(t, tree, fewer, false)
			checkSame(t, tree, more, false)
		}
		checkSame(t, tree, impl.Tree{}, false)
	}
}

func TestSameTreeOfOddTrees(t *testing.T) {
	checkSame(t, impl.Tree{}, impl.Tree{}, true)
	checkSame(t, impl.Tree{}, impl.Tree{Nodes: []impl.Node{}}, true)
	checkSame(t, impl.Tree{}, impl.Tree{Nodes: []impl.Node{{}}}, false)
	checkSame(t, impl.Tree{Nodes: []impl.Node{{Kids: []int{}}}}, impl.Tree{Nodes: []impl.Node{{}}}, true)
	// Trees that are not valid are held against each other as they are.
	odd := impl.Tree{Nodes: []impl.Node{{K: -5, M: 99, S: "\x00", Kids: []int{0, 7, -1}}}}
	checkSame(t, odd, cloneTree(odd), true)
	other := cloneTree(odd)
	other.Nodes[0].Kids[1] = 8
	checkSame(t, odd, other, false)
	other = cloneTree(odd)
	other.Nodes[0].S = "\x01"
	checkSame(t, odd, other, false)
}

func TestSameTreeOfManySources(t *testing.T) {
	r := rand.New(rand.NewSource(13))
	last := impl.Tree{}
	for i := range 500 {
		g := madeUp(r, 1+i%3, i%4)
		a := g.clone()
		b := g.clone()
		sourceOf(r, a)
		sourceOf(r, b)
		checkSame(t, a.tree(), b.tree(), true)
		checkSame(t, a.tree(), last, g.show(false) == "unit" && len(last.Nodes) == 1 || len(last.Nodes) > 0 && g.show(false) == grownOf(last).show(false))
		last = a.tree()
	}
}
