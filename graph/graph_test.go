package graph_test

import (
	"fmt"
	"math"
	"math/rand"
	"slices"
	"strings"
	"testing"

	"flitting/api"
	"flitting/graph"
)

func want[T comparable](t *testing.T, what string, got, wanted T) {
	t.Helper()
	if got != wanted {
		t.Errorf("%s: %#v, not %#v", what, got, wanted)
	}
}

func nums(l ...int) []int { return l }

// graphOf is a graph with some first roots, the others none.
func graphOf(roots []int, nodes ...api.Node) api.Graph {
	return api.Graph{Roots: append(slices.Clone(roots), make([]int, 8-len(roots))...), Nodes: nodes}
}

// isRight tells whether a graph may be, by the document's words.
func isRight(g api.Graph) bool {
	between := func(numbers []int, last int) bool {
		return len(numbers) == 0 || slices.Min(numbers) >= 0 && slices.Max(numbers) <= last
	}
	right := len(g.Roots) == 8 && len(g.Nodes) <= 1000 && between(g.Roots, len(g.Nodes))
	for _, n := range g.Nodes {
		right = right && len(n.Slots) <= 15 && len(n.Words) <= 30 && between(n.Slots, len(g.Nodes)) && between(n.Words, 4_294_967_295)
	}
	return right
}

// asked is Canon of a graph, by the document's words; a graph that may not be is as it was.
func asked(g api.Graph) api.Graph {
	if !isRight(g) {
		return g
	}
	named := slices.Clone(g.Roots)
	var order []int
	meet := func() {
		for _, node := range named {
			if node != 0 && !slices.Contains(order, node) {
				order = append(order, node)
			}
		}
	}
	renamed := func(numbers []int) []int {
		var l []int
		for _, node := range numbers {
			l = append(l, slices.Index(order, node)+1)
		}
		return l
	}
	meet()
	for at := 0; at < len(order); at++ {
		named = g.Nodes[order[at]-1].Slots
		meet()
	}
	c := api.Graph{Roots: renamed(g.Roots)}
	for _, node := range order {
		n := g.Nodes[node-1]
		c.Nodes = append(c.Nodes, api.Node{Slots: renamed(n.Slots), Words: n.Words})
	}
	return c
}

// sizeAsked is Size of a graph, by the document's words.
func sizeAsked(g api.Graph) int {
	if !isRight(g) {
		return 0
	}
	cells := 0
	for _, n := range asked(g).Nodes {
		cells += 1 + len(n.Slots) + len(n.Words)
	}
	return cells
}

// textAsked is Text of a graph, by the document's words. No two graphs that are not just the same have one text.
func textAsked(g api.Graph) string {
	t := []byte("r")
	list := func(numbers []int) {
		for _, v := range numbers {
			t = fmt.Append(t, " ", v)
		}
	}
	list(g.Roots)
	for _, n := range g.Nodes {
		t = append(t, ";"...)
		list(n.Slots)
		t = append(t, "|"...)
		list(n.Words)
	}
	return string(t)
}

// haveOneForm tells whether two graphs that may be have the same form: going through both side by side each node meets one other node, and only that one, with the same words and as many slots.
func haveOneForm(a, b api.Graph) bool {
	there, back := map[int]int{}, map[int]int{}
	var ahead [][2]int
	meet := func(l, m []int) bool {
		if len(l) != len(m) {
			return false
		}
		for i, x := range l {
			y := m[i]
			if x == 0 && y == 0 || there[x] == y && back[y] == x {
				continue
			}
			if x == 0 || y == 0 || there[x] != 0 || back[y] != 0 {
				return false
			}
			there[x], back[y] = y, x
			ahead = append(ahead, [2]int{x, y})
		}
		return true
	}
	one := meet(a.Roots, b.Roots)
	for ; one && len(ahead) > 0; ahead = ahead[1:] {
		n, m := a.Nodes[ahead[0][0]-1], b.Nodes[ahead[0][1]-1]
		one = slices.Equal(n.Words, m.Words) && meet(n.Slots, m.Slots)
	}
	return one
}

// lists are all lists of numbers that a graph has.
func lists(g api.Graph) []*[]int {
	l := []*[]int{&g.Roots}
	for i := range g.Nodes {
		l = append(l, &g.Nodes[i].Slots, &g.Nodes[i].Words)
	}
	return l
}

// copied is a graph just the same, each of whose lists has room behind it, with a number that nobody may write into.
func copied(g api.Graph) api.Graph {
	c := api.Graph{Roots: roomy(g.Roots), Nodes: make([]api.Node, len(g.Nodes), len(g.Nodes)+1)}
	for i, n := range g.Nodes {
		c.Nodes[i] = api.Node{Slots: roomy(n.Slots), Words: roomy(n.Words)}
	}
	c.Nodes[:len(g.Nodes)+1][len(g.Nodes)] = api.Node{Words: nums(behind)}
	return c
}

const behind = -77

func roomy(l []int) []int {
	r := append(slices.Clone(l), behind)
	return r[:len(l):len(r)]
}

// isWhole tells whether nothing was written into a graph of copied, nor behind its lists.
func isWhole(c, g api.Graph) bool {
	whole := textAsked(c) == textAsked(g)
	for _, l := range append(lists(c), &c.Nodes[:len(c.Nodes)+1][len(c.Nodes)].Words) {
		r := *l
		whole = whole && r[:cap(r)][cap(r)-1] == behind
	}
	return whole
}

// spoil writes another number into each cell of each list of a graph, also into those behind it; false, if two lists share one.
func spoil(g api.Graph) bool {
	for i, l := range lists(g) {
		r := (*l)[:cap(*l)]
		for j := range r {
			r[j] = -1000 - i
		}
	}
	apart := true
	for i, l := range lists(g) {
		for _, v := range (*l)[:cap(*l)] {
			apart = apart && v == -1000-i
		}
	}
	clear(g.Nodes[:cap(g.Nodes)])
	return apart
}

// hold holds all that is told of one graph against the document's words.
func hold(t *testing.T, what string, g api.Graph) {
	t.Helper()
	in, right, wanted := copied(g), isRight(g), textAsked(asked(g))
	want(t, what+": Right", graph.Right(in), right)
	c := graph.Canon(in)
	want(t, what+": Canon", textAsked(c), wanted)
	want(t, what+": Canon of Canon", textAsked(graph.Canon(c)), wanted)
	want(t, what+": Size", graph.Size(in), sizeAsked(g))
	want(t, what+": Text", graph.Text(in), textAsked(g))
	want(t, what+": Same as itself", graph.Same(in, g), right)
	want(t, what+": Same as Canon", graph.Same(in, c), right)
	want(t, what+": Canon, Same as it", graph.Same(c, in), right)
	want(t, what+": Alike itself", graph.Alike(in, g), true)
	want(t, what+": Alike Canon", graph.Alike(in, c), textAsked(g) == wanted)
	want(t, what+": what was handed in is as it was", isWhole(in, g), true)
	want(t, what+": lists of Canon are apart", spoil(c), true)
	want(t, what+": what was handed in, behind another Canon", isWhole(in, g), true)
	want(t, what+": Canon anew", textAsked(graph.Canon(in)), wanted)
}

// holdTwo holds what is told of two graphs against the document's words.
func holdTwo(t *testing.T, a, b api.Graph) {
	t.Helper()
	if got, wanted := graph.Alike(a, b), textAsked(a) == textAsked(b); got != wanted {
		t.Errorf("Alike(%s, %s): %v", textAsked(a), textAsked(b), got)
	}
	if got, wanted := graph.Same(a, b), isRight(a) && isRight(b) && haveOneForm(a, b); got != wanted {
		t.Errorf("Same(%s, %s): %v", textAsked(a), textAsked(b), got)
	}
}

// count goes through all lists of n digits from 0 to top.
func count(n, top int, each func(digits []int)) {
	digits := make([]int, n)
	for {
		each(digits)
		at := 0
		for at < n && digits[at] == top {
			digits[at] = 0
			at++
		}
		if at == n {
			return
		}
		digits[at]++
	}
}

// some is a graph with nodes of several kinds: one that nobody names, one that names itself, and the last one that may be named.
func some() api.Graph {
	return api.Graph{
		Roots: nums(3, 0, 2, 3, 0, 0, 0, 5),
		Nodes: []api.Node{
			{Slots: nums(2), Words: nums(9)},
			{Slots: nums(4, 3), Words: nums(1, 2)},
			{Slots: nums(0, 2, 3)},
			{Words: nums(5, 0, 4_294_967_295)},
			{Slots: nums(5, 4)},
			{},
		},
	}
}

// values are numbers about what may be, where the last node has a number, and numbers that are far from it.
func values(last int) []int {
	l := []int{-1, 0, 1, last - 1, last, last + 1, 999, 1000, 1001, math.MinInt, math.MaxInt, math.MinInt + 1}
	for k := 15; k < 63; k++ {
		for by := -1; by <= 1; by++ {
			l = append(l, 1<<k+by, -1<<k+by)
		}
	}
	return l
}

func TestP1601Examples(t *testing.T) {
	g := some()
	want(t, "Right", graph.Right(g), true)
	want(t, "Canon", textAsked(graph.Canon(g)), "r 1 0 2 1 0 0 0 3; 0 2 1|; 4 1| 1 2; 3 4|;| 5 0 4294967295")
	hold(t, "some", g)
	hold(t, "nothing is named", graphOf(nil, api.Node{Slots: nums(1, 2)}, api.Node{Words: nums(7)}))
	hold(t, "no nodes", graphOf(nil))
	hold(t, "all roots name one", graphOf(nums(2, 2, 2, 2, 2, 2, 2, 2), api.Node{}, api.Node{Slots: nums(2, 2), Words: nums(1)}))
	hold(t, "all roots name others", graphOf(nums(8, 7, 6, 5, 4, 3, 2, 1), make([]api.Node, 8)...))
}

// TestP1601WhatIsMetFirst has slots of the second root's node that were met ahead of what the first root's node leads to further on.
func TestP1601WhatIsMetFirst(t *testing.T) {
	far := graphOf(nums(1, 2), api.Node{Slots: nums(3)}, api.Node{Slots: nums(4)}, api.Node{Slots: nums(5)}, api.Node{Words: nums(4)}, api.Node{Words: nums(5)})
	want(t, "Canon, as it was", textAsked(graph.Canon(far)), textAsked(far))
	hold(t, "far", far)
	deep := graphOf(nums(1), api.Node{Slots: nums(2, 3)}, api.Node{Slots: nums(4)}, api.Node{Words: nums(3)}, api.Node{Words: nums(4)})
	want(t, "Canon, as it was", textAsked(graph.Canon(deep)), textAsked(deep))
	last := graphOf(nil, api.Node{Words: nums(1)}, api.Node{Slots: nums(0, 1, 3, 1), Words: nums(2)}, api.Node{Slots: nums(3, 2)})
	last.Roots[7] = 2
	want(t, "Canon, from the last root", textAsked(graph.Canon(last)), "r 0 0 0 0 0 0 0 1; 0 2 3 2| 2;| 1; 3 1|")
	hold(t, "last", last)
}

// TestP1601EverySmallGraph goes through each graph of three nodes with two slots, and two roots, whatever they name.
func TestP1601EverySmallGraph(t *testing.T) {
	count(8, 3, func(d []int) {
		g := graphOf(nil, api.Node{Slots: d[2:4], Words: nums(1)}, api.Node{Slots: d[4:6], Words: nums(2, 2)}, api.Node{Slots: d[6:8], Words: nums(3, 3, 3)})
		g.Roots[1], g.Roots[6] = d[0], d[1]
		hold(t, textAsked(g), g)
	})
}

// TestP1601EveryPlace gives each root, each slot and each word numbers about what may be, and such as are far from it.
func TestP1601EveryPlace(t *testing.T) {
	places := len(lists(some()))
	for place := range places {
		for at := range *lists(some())[place] {
			for _, v := range values(len(some().Nodes)) {
				g := some()
				(*lists(g)[place])[at] = v
				hold(t, fmt.Sprintf("list %d, at %d: %d", place, at, v), g)
				holdTwo(t, g, some())
				holdTwo(t, some(), g)
			}
		}
	}
}

// TestP1601HowMany has each number of roots, nodes, slots and words about those that may be.
func TestP1601HowMany(t *testing.T) {
	for n := range 70 {
		g := some()
		g.Roots = make([]int, n)
		want(t, fmt.Sprintf("%d roots", n), graph.Right(g), n == 8)
		hold(t, fmt.Sprintf("%d roots", n), g)
		for node := range some().Nodes {
			g = some()
			g.Nodes[node].Slots = make([]int, n)
			want(t, fmt.Sprintf("%d slots", n), graph.Right(g), n <= 15)
			hold(t, fmt.Sprintf("%d slots", n), g)
			g = some()
			g.Nodes[node].Words = make([]int, n)
			want(t, fmt.Sprintf("%d words", n), graph.Right(g), n <= 30)
			hold(t, fmt.Sprintf("%d words", n), g)
		}
	}
	for _, n := range []int{0, 1, 2, 998, 999, 1000, 1001, 1002, 1024, 2000} {
		g := graphOf(nums(min(n, 1)), make([]api.Node, n)...)
		want(t, fmt.Sprintf("%d nodes", n), graph.Right(g), n <= 1000)
		hold(t, fmt.Sprintf("%d nodes", n), g)
	}
	greatest := api.Node{Slots: make([]int, 15), Words: make([]int, 30)}
	hold(t, "the greatest node", graphOf(nums(1), greatest))
	greatest.Slots[14], greatest.Words[29] = 1, 4_294_967_295
	hold(t, "the greatest node, that names itself", graphOf(nums(1), greatest))
}

// TestP1601P1602NothingIsThere has nil lists and empty ones, which are the same.
func TestP1601P1602NothingIsThere(t *testing.T) {
	empty := api.Graph{Roots: []int{}, Nodes: []api.Node{}}
	for _, g := range []api.Graph{{}, empty, {Nodes: make([]api.Node, 3)}, {Roots: make([]int, 8)}, {Roots: make([]int, 8), Nodes: []api.Node{{Slots: []int{}}, {Words: []int{}}}}} {
		hold(t, textAsked(g), g)
		holdTwo(t, g, api.Graph{})
		holdTwo(t, empty, g)
	}
	holdTwo(t, graphOf(nums(1), api.Node{}), graphOf(nums(1), api.Node{Slots: []int{}, Words: []int{}}))
	want(t, "Text of nothing", graph.Text(api.Graph{}), "r")
}

// TestP1601EveryTwo holds each two of many small graphs against each other: two nodes that name what they will, with the same word or others.
func TestP1601EveryTwo(t *testing.T) {
	var all []api.Graph
	count(5, 2, func(d []int) {
		for word := range 2 {
			d := slices.Clone(d)
			all = append(all, graphOf(d[:2], api.Node{Slots: d[2:4], Words: nums(1)}, api.Node{Slots: d[4:], Words: nums(word)}))
		}
	})
	for _, a := range all {
		for _, b := range all {
			holdTwo(t, a, b)
		}
	}
}

// TestP1601Alike takes something away from a graph, adds something, or lets two parts change places, in each place.
func TestP1601Alike(t *testing.T) {
	for place := range lists(some()) {
		g := some()
		l := lists(g)[place]
		*l = append(*l, 0)
		holdTwo(t, g, some())
		holdTwo(t, some(), g)
		for at := range *lists(some())[place] {
			g := some()
			l := lists(g)[place]
			*l = slices.Delete(*l, at, at+1)
			holdTwo(t, g, some())
			holdTwo(t, some(), g)
		}
	}
	for i := range some().Nodes {
		g := some()
		g.Nodes = slices.Delete(g.Nodes, i, i+1)
		holdTwo(t, g, some())
		for j := range some().Nodes {
			g := some()
			g.Nodes[i], g.Nodes[j] = g.Nodes[j], g.Nodes[i]
			holdTwo(t, g, some())
			g.Nodes[i].Slots, g.Nodes[i].Words = g.Nodes[i].Words, g.Nodes[i].Slots
			holdTwo(t, some(), g)
		}
	}
	more := some()
	more.Nodes = append(more.Nodes, api.Node{})
	want(t, "Alike, but for a node that nobody names", graph.Alike(more, some()), false)
	want(t, "Same, but for a node that nobody names", graph.Same(more, some()), true)
}

// TestP1601SameMayNotBe has graphs of which one may not be, though all that is reached may.
func TestP1601SameMayNotBe(t *testing.T) {
	good, bad := graphOf(nums(1), api.Node{}), graphOf(nums(1), api.Node{}, api.Node{Words: nums(-1)})
	want(t, "Same, the second one may not be", graph.Same(good, bad), false)
	want(t, "Same, the first one may not be", graph.Same(bad, good), false)
	want(t, "Same, both may not be", graph.Same(bad, bad), false)
	want(t, "Alike, both may not be", graph.Alike(bad, bad), true)
	want(t, "Size of what may not be", graph.Size(bad), 0)
	hold(t, "bad", bad)
	holdTwo(t, good, bad)
}

// TestP1601ListsOfItsOwn hands in graphs whose nodes share their lists, with each other and with the roots.
func TestP1601ListsOfItsOwn(t *testing.T) {
	for _, v := range []int{1, 2, 3, -1} {
		shared := nums(v, 2, 1, 0, 0, 3, 0, v)
		g := api.Graph{Roots: shared, Nodes: []api.Node{{Slots: shared, Words: shared}, {Slots: shared[:0], Words: shared[2:]}, {Slots: shared[1:4]}}}
		was := textAsked(g)
		wanted := textAsked(asked(g))
		c := graph.Canon(g)
		want(t, "Canon", textAsked(c), wanted)
		want(t, "lists of Canon are apart", spoil(c), true)
		want(t, "what was handed in", textAsked(g), was)
		c = graph.Canon(g)
		for i := range shared {
			shared[i] = -9
		}
		want(t, "Canon, when what was handed in is written over", textAsked(c), wanted)
	}
}

// drawn is a graph of so many nodes, few or many of which are reached.
func drawn(r *rand.Rand, nodes int) api.Graph {
	g := graphOf(nil)
	few := r.Intn(4)
	name := func() int {
		if r.Intn(4) < few {
			return 0
		}
		return r.Intn(nodes + 1)
	}
	for i := range g.Roots {
		g.Roots[i] = name()
	}
	for range nodes {
		var n api.Node
		for range r.Intn(16) {
			n.Slots = append(n.Slots, name())
		}
		for range r.Intn(31) {
			n.Words = append(n.Words, r.Intn(3)*(api.Wrap/2-1)+r.Intn(2))
		}
		g.Nodes = append(g.Nodes, n)
	}
	return g
}

// mixed is a graph of the same form, whose nodes have other numbers.
func mixed(r *rand.Rand, g api.Graph) api.Graph {
	order := r.Perm(len(g.Nodes))
	renamed := func(l []int) []int {
		var now []int
		for _, node := range l {
			if node != 0 {
				node = order[node-1] + 1
			}
			now = append(now, node)
		}
		return now
	}
	m := api.Graph{Roots: renamed(g.Roots), Nodes: make([]api.Node, len(g.Nodes))}
	for i, n := range g.Nodes {
		m.Nodes[order[i]] = api.Node{Slots: renamed(n.Slots), Words: n.Words}
	}
	return m
}

// TestP1601P1602Drawn holds drawn graphs, others of the same form, and such as are other in one place.
func TestP1601P1602Drawn(t *testing.T) {
	r := rand.New(rand.NewSource(1601))
	for range 600 {
		g := drawn(r, r.Intn(40))
		m := mixed(r, g)
		hold(t, "drawn", g)
		hold(t, "mixed", m)
		holdTwo(t, g, m)
		want(t, "Same of what was mixed", graph.Same(g, m), true)
		want(t, "Canon of what was mixed", textAsked(graph.Canon(m)), textAsked(graph.Canon(g)))
		want(t, "Size of what was mixed", graph.Size(m), graph.Size(g))
		l := *lists(m)[r.Intn(len(lists(m)))]
		if len(l) > 0 {
			was := l[len(l)/2]
			l[len(l)/2] = r.Intn(len(m.Nodes) + 1)
			holdTwo(t, g, m)
			l[len(l)/2] = was
		}
	}
}

// TestP1601P1602Great holds the greatest graphs: each node names only the next one, or the one ahead of it, or many.
func TestP1601P1602Great(t *testing.T) {
	next := make([]api.Node, 1000)
	back := make([]api.Node, 1000)
	many := make([]api.Node, 1000)
	for i := range 1000 {
		next[i].Slots = nums((i + 2) % 1001)
		back[i].Slots = nums(i)
		many[i].Words = make([]int, 30)
		for k := range 15 {
			many[i].Slots = append(many[i].Slots, (i*15+k+2)%1001)
		}
	}
	hold(t, "next", graphOf(nums(1), next...))
	hold(t, "back", graphOf(nums(1000), back...))
	hold(t, "half of them", graphOf(nums(500), back...))
	hold(t, "many", graphOf(nums(1), many...))
	want(t, "Same", graph.Same(graphOf(nums(1), next...), graphOf(nums(1000), back...)), true)
	want(t, "Same, but for the beginning", graph.Same(graphOf(nums(1), next...), graphOf(nums(999), back...)), false)
	want(t, "Size, all of them", graph.Size(graphOf(nums(1000), back...)), 2000)
	want(t, "Size, half of them", graph.Size(graphOf(nums(500), back...)), 1000)
	want(t, "Size, the greatest one", graph.Size(graphOf(nums(1), many...)), 46_000)
	hold(t, "one node too many", graphOf(nums(1), append(many, api.Node{})...))
}

func TestP1602Size(t *testing.T) {
	one := api.Node{Slots: make([]int, 2), Words: make([]int, 3)}
	want(t, "one", graph.Size(graphOf(nums(1), one)), 6)
	want(t, "one, named by all", graph.Size(graphOf(nums(1, 1, 1, 1, 1, 1, 1, 1), one)), 6)
	want(t, "one of two", graph.Size(graphOf(nums(2), one, api.Node{})), 1)
	want(t, "two that are like each other", graph.Size(graphOf(nums(1, 2), one, one)), 12)
	want(t, "none that is named", graph.Size(graphOf(nil, one)), 0)
	want(t, "through a slot", graph.Size(graphOf(nums(0, 2), one, api.Node{Slots: nums(1)})), 8)
	for slots := range 17 {
		for words := range 32 {
			g := graphOf(nums(1), api.Node{Slots: make([]int, slots), Words: make([]int, words)})
			want(t, fmt.Sprintf("%d slots, %d words", slots, words), graph.Size(g), sizeAsked(g))
		}
	}
}

func TestP1602Text(t *testing.T) {
	want(t, "the example", graph.Text(graphOf(nums(1), api.Node{Words: nums(5)})), "r 1 0 0 0 0 0 0 0;| 5")
	want(t, "some", graph.Text(some()), "r 3 0 2 3 0 0 0 5; 2| 9; 4 3| 1 2; 0 2 3|;| 5 0 4294967295; 5 4|;|")
	want(t, "what may not be", graph.Text(api.Graph{Roots: nums(-7), Nodes: []api.Node{{Slots: nums(math.MinInt), Words: nums(math.MaxInt)}}}), "r -7; -9223372036854775808| 9223372036854775807")
	for _, v := range values(3) {
		want(t, fmt.Sprintf("%d everywhere", v), graph.Text(api.Graph{Roots: nums(v, v), Nodes: []api.Node{{Slots: nums(v), Words: nums(v, v)}}}), strings.ReplaceAll("r x x; x| x x", "x", fmt.Sprint(v)))
	}
	want(t, "many", graph.Text(graphOf(nil, make([]api.Node, 2000)...)), "r 0 0 0 0 0 0 0 0"+strings.Repeat(";|", 2000))
}
