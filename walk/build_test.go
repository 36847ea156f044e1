package walk_test

import (
	"fmt"
	"math"
	"math/rand"
	"slices"
	"testing"

	"flitting/alloc"
	"flitting/api"
	"flitting/field"
	"flitting/gc"
	"flitting/graph"
	"flitting/space"
	"flitting/store"
	"flitting/walk"
)

func nums(l ...int) []int { return l }

// graphOf is a graph with some first roots, the others none.
func graphOf(roots []int, nodes ...api.Node) api.Graph {
	return api.Graph{Roots: append(slices.Clone(roots), make([]int, 8-len(roots))...), Nodes: nodes}
}

// isGraph tells whether a graph may be, by the document's words.
func isGraph(g api.Graph) bool {
	between := func(numbers []int, last int) bool {
		return len(numbers) == 0 || slices.Min(numbers) >= 0 && slices.Max(numbers) <= last
	}
	right := len(g.Roots) == 8 && len(g.Nodes) <= 1000 && between(g.Roots, len(g.Nodes))
	for _, n := range g.Nodes {
		right = right && len(n.Slots) <= 15 && len(n.Words) <= 30 && between(n.Slots, len(g.Nodes)) && between(n.Words, 4_294_967_295)
	}
	return right
}

// order is in which order the nodes of a graph are met, by the document's words.
func order(g api.Graph) []int {
	var met []int
	meet := func(named []int) {
		for _, node := range named {
			if node != 0 && !slices.Contains(met, node) {
				met = append(met, node)
			}
		}
	}
	meet(g.Roots)
	for k := 0; k < len(met); k++ {
		meet(g.Nodes[met[k]-1].Slots)
	}
	return met
}

// canon is Canon of a graph that may be, by the document's words.
func canon(g api.Graph) api.Graph {
	met := order(g)
	renamed := func(numbers []int) []int {
		var l []int
		for _, node := range numbers {
			l = append(l, slices.Index(met, node)+1)
		}
		return l
	}
	c := api.Graph{Roots: renamed(g.Roots)}
	for _, node := range met {
		n := g.Nodes[node-1]
		c.Nodes = append(c.Nodes, api.Node{Slots: renamed(n.Slots), Words: n.Words})
	}
	return c
}

// askedBuild is what Build must tell, by the document's words; the cells are turned to what they must be behind it.
func askedBuild(cells []int, g api.Graph) api.Errno {
	if len(cells) == 0 || !isGraph(g) {
		return api.ErrArg
	}
	c := canon(g)
	places := []int{0}
	for _, n := range c.Nodes {
		f := form{len(n.Slots), len(n.Words)}
		half := (len(cells) - 16) / 2
		if !isRight(cells) {
			return api.ErrArg
		}
		if cells[1]+f.size() > 16+half*(1+cells[0]) {
			return api.ErrHeap
		}
		at := cells[1]
		clear(cells[at : at+f.size()])
		cells[at], cells[1] = f.header(), at+f.size()
		places = append(places, at)
	}
	for i, n := range c.Nodes {
		at := places[i+1] + 1
		for k, v := range n.Slots {
			cells[at+k] = places[v]
		}
		copy(cells[at+len(n.Slots):], n.Words)
	}
	for i, v := range c.Roots {
		cells[8+i] = places[v]
	}
	return api.OK
}

// copied is a graph just the same, each of whose lists has room behind it, with numbers that nobody may write into.
func copied(g api.Graph) api.Graph {
	c := api.Graph{Roots: roomy(g.Roots), Nodes: make([]api.Node, len(g.Nodes), len(g.Nodes)+1)}
	for i, n := range g.Nodes {
		c.Nodes[i] = api.Node{Slots: roomy(n.Slots), Words: roomy(n.Words)}
	}
	c.Nodes[:len(g.Nodes)+1][len(g.Nodes)] = api.Node{Slots: roomy(nil), Words: roomy(nil)}
	return c
}

// isAsItWas tells whether nothing was written into a graph of copied, nor behind its lists.
func isAsItWas(c, g api.Graph) bool {
	c.Nodes = c.Nodes[:len(g.Nodes)+1]
	wanted := lists(api.Graph{Roots: g.Roots, Nodes: append(slices.Clone(g.Nodes), api.Node{})})
	whole := cap(c.Nodes) == len(g.Nodes)+1
	for i, l := range lists(c) {
		whole = whole && isWhole(*l, *wanted[i])
	}
	return whole
}

// builds builds a graph, and holds what is told, what was handed in, each cell behind it, and what is reached then, against the document's words.
func builds(t *testing.T, what string, s *store.Store, g api.Graph) api.Errno {
	t.Helper()
	cells, in := s.All(), copied(g)
	wanted := askedBuild(cells, g)
	e := walk.Build(s, in)
	want(t, what+": Build", e, wanted)
	want(t, what+": what was handed in is as it was", isAsItWas(in, g), true)
	if now := s.All(); !slices.Equal(now, cells) {
		t.Errorf("%s: the cells: %v, not %v", what, now, cells)
	}
	if e == api.OK && isRight(cells) {
		want(t, what+": Of, Live", told(s), answer{text(canon(g)), api.OK, graph.Size(g)})
	}
	return e
}

// tries builds a graph, and turns back then what was turned.
func tries(t *testing.T, what string, s *store.Store, g api.Graph) api.Errno {
	t.Helper()
	was := s.All()
	e := builds(t, what, s, g)
	back(s, was)
	return e
}

// some is a graph with nodes of several kinds: one that nobody names, one that names itself, and the last one that may be named.
func some() api.Graph {
	return graphOf(nums(3, 0, 2, 3, 0, 0, 0, 5),
		api.Node{Slots: nums(2), Words: nums(9)},
		api.Node{Slots: nums(4, 3), Words: nums(1, 2)},
		api.Node{Slots: nums(0, 2, 3)},
		api.Node{Words: nums(5, 0, 4_294_967_295)},
		api.Node{Slots: nums(5, 4)},
		api.Node{},
	)
}

func TestP1702Examples(t *testing.T) {
	_, s := made(t, api.Geo{Half: 30, Log: 60})
	want(t, "Build", walk.Build(s, some()), api.OK)
	same(t, "the roots", s.All()[8:16], []int{16, 0, 20, 16, 0, 0, 0, 25})
	same(t, "the objects", alloc.Objects(s), []int{16, 20, 25, 28})
	same(t, "their cells", s.All()[16:33], []int{16_777_216 + 3*256, 0, 20, 16, 16_777_216 + 2*256 + 2, 28, 16, 1, 2, 16_777_216 + 2*256, 25, 28, 16_777_216 + 3, 5, 0, 4_294_967_295, 0})
	want(t, "the control", space.Get(s), space.Control{Free: 32})
	want(t, "Of", told(s), answer{"r 1 0 2 1 0 0 0 3; 0 2 1|; 4 1| 1 2; 3 4|;| 5 0 4294967295", api.OK, 16})
	want(t, "Build, of nothing", walk.Build(s, graphOf(nil, api.Node{})), api.OK)
	same(t, "the roots", s.All()[8:16], make([]int, 8))
	want(t, "the control", space.Get(s), space.Control{Free: 32})
	want(t, "Of nothing", told(s), answer{"r 0 0 0 0 0 0 0 0", api.OK, 0})
}

// TestP1702WhatMayNotBe asks that of a graph that may not be nothing is made.
func TestP1702WhatMayNotBe(t *testing.T) {
	s := few(t)
	was := s.All()
	var l []api.Graph
	for i := range lists(some()) {
		for k := range *lists(some())[i] {
			for _, v := range []int{-1, 7, api.Wrap, math.MinInt, math.MaxInt} {
				g := some()
				if (*lists(g)[i])[k] = v; !isGraph(g) {
					l = append(l, g)
				}
			}
		}
	}
	want(t, "how many may not be", len(l), (8+1+2+3+2)*5+(1+2+3)*4)
	l = append(l,
		api.Graph{},
		api.Graph{Roots: make([]int, 7)},
		api.Graph{Roots: make([]int, 9)},
		api.Graph{Nodes: []api.Node{{}}},
		graphOf(nums(1)),
		graphOf(nums(1), make([]api.Node, 1001)...),
		graphOf(nums(1), api.Node{Slots: make([]int, 16)}),
		graphOf(nums(1), api.Node{Words: make([]int, 31)}),
		graphOf(nums(1), api.Node{}, api.Node{Words: nums(-1)}), // nobody names it
	)
	for _, g := range l {
		what := text(g)
		want(t, what, builds(t, what, s, g), api.ErrArg)
		same(t, what+": the cells", s.All(), was)
	}
	want(t, "the most nodes", builds(t, "the most nodes", s, graphOf(nums(1000), make([]api.Node, 1000)...)), api.OK)
	want(t, "the most slots and words", tries(t, "the most slots and words", wider(t), graphOf(nums(1), api.Node{Slots: make([]int, 15), Words: make([]int, 30)})), api.OK)
}

// wider is a store of a greater half.
func wider(t *testing.T) *store.Store {
	t.Helper()
	_, s := made(t, api.Geo{Half: 60, Log: 60})
	return s
}

// TestP1702OfEveryControl builds with each control about those that may be; a graph of nothing asks for no object, and so for no control.
func TestP1702OfEveryControl(t *testing.T) {
	_, s := made(t, api.Geo{Half: 8, Log: 8})
	for cell := 8; cell < 32; cell++ {
		s.Set(cell, 16_777_216)
	}
	graphs := []api.Graph{graphOf(nil), graphOf(nums(1), api.Node{}), graphOf(nums(2, 1), api.Node{Words: nums(1)}, api.Node{Slots: nums(1, 2)}), graphOf(nums(2), api.Node{Words: nums(1)}), {}}
	for no := 0; no <= 2; no++ {
		for free := 14; free <= 34; free++ {
			for gc := 0; gc <= 2; gc++ {
				for _, scan := range []int{0, 1, 15, 16, 18, 20, 23, 24, 25, 28, 32, 33, api.Wrap - 1} {
					c := space.Control{Space: no, Free: free, Gc: gc, Scan: scan}
					put(s, c)
					for _, g := range graphs {
						tries(t, fmt.Sprintf("%+v: %s", c, text(g)), s, g)
					}
				}
			}
		}
	}
}

// TestP1702OfEveryForm builds objects of each form, one that is named by another one, and by itself.
func TestP1702OfEveryForm(t *testing.T) {
	for no := range 2 {
		s := wider(t)
		put(s, space.Control{Space: no, Free: 18 + 60*no})
		for cell := 18; cell < 136; cell++ {
			s.Set(cell, 7)
		}
		for _, f := range forms {
			n := api.Node{Slots: make([]int, f.slots), Words: make([]int, f.words)}
			for k := range n.Slots {
				n.Slots[k] = (k + 1) % 4
			}
			for k := range n.Words {
				n.Words[k] = []int{api.Wrap - 1, k, 0, 20}[k%4]
			}
			g := graphOf(nums(0, 2, 1, 3), api.Node{Words: nums(3)}, n, api.Node{Slots: nums(2, 3)})
			want(t, fmt.Sprintf("half %d, %+v", no, f), tries(t, fmt.Sprintf("half %d, %+v", no, f), s, g), api.OK)
		}
	}
}

// TestP1702TheHalfIsFull asks, for each number of cells that are left, whether a graph fits; where it does not, what was made stays, with nothing in it, the roots stay too, and Abort takes it back.
func TestP1702TheHalfIsFull(t *testing.T) {
	for used := range 31 {
		s := few(t)
		put(s, space.Control{Free: 16 + used})
		want(t, "Commit", s.Commit(), api.OK)
		was := s.All()
		what := fmt.Sprintf("%d used", used)
		wanted := api.ErrHeap
		if used <= 14 {
			wanted = api.OK
		}
		want(t, what, builds(t, what, s, some()), wanted)
		if wanted == api.OK {
			continue
		}
		made := 0
		for _, size := range []int{4, 5, 3, 4} {
			if used+made+size > 30 {
				break
			}
			made += size
		}
		want(t, what+": Used", space.Used(s), used+made)
		same(t, what+": the roots", s.All()[8:16], was[8:16])
		for cell := 16 + used; cell < 16+used+made; cell++ {
			v := s.Get(cell)
			want(t, what+": a cell that is neither a header nor none", v != 0 && forms[v] == form{}, false)
		}
		s.Abort()
		same(t, what+": behind Abort", s.All(), was)
	}
}

// TestP1702OnceMore asks that what is there already stays where it is, and that no more of it is reached.
func TestP1702OnceMore(t *testing.T) {
	s := few(t)
	was := s.All()
	g := graphOf(nums(0, 1), api.Node{Slots: nums(1, 0)})
	want(t, "Build", builds(t, "once", s, g), api.OK)
	same(t, "what was there", s.All()[16:27], was[16:27])
	same(t, "the roots", s.All()[8:16], []int{0, 27, 0, 0, 0, 0, 0, 0})
	want(t, "Build", builds(t, "twice", s, g), api.OK)
	want(t, "Used", space.Used(s), 17)
	want(t, "Live", walk.Live(s), 3)
	want(t, "Build", builds(t, "of nothing", s, graphOf(nil)), api.OK)
	want(t, "Live", walk.Live(s), 0)
}

// TestP1702WhileACollectionGoesOn asks that a graph is made in the half in use, and stays when the collection is over.
func TestP1702WhileACollectionGoesOn(t *testing.T) {
	for n := range 3 {
		s := few(t)
		gc.Start(s)
		gc.Step(s, n)
		want(t, "Build", builds(t, fmt.Sprintf("behind %d", n), s, some()), api.OK)
		hold(t, "where it was", s, 21)
		wanted := told(s)
		for !over(t, s) {
			want(t, "while it is collected", told(s), wanted)
		}
		want(t, "behind that", told(s), wanted)
		gc.All(s)
		want(t, "moved", told(s), wanted)
		want(t, "Used", space.Used(s), wanted.live)
	}
}

// TestP1702IsWorking asks that a graph is cells as all others: Abort takes it back, and it lasts with a Commit.
func TestP1702IsWorking(t *testing.T) {
	d, s := made(t, api.Geo{Half: 30, Log: 60})
	was, room := s.All(), s.Room()
	want(t, "Build", walk.Build(s, some()), api.OK)
	want(t, "Room", s.Room(), room)
	wanted := told(s)
	s.Abort()
	same(t, "behind Abort", s.All(), was)
	want(t, "Build", walk.Build(s, some()), api.OK)
	d.Crash()
	d.Power()
	s = opened(t, d)
	same(t, "behind a fall", s.All(), was)
	want(t, "Build", walk.Build(s, some()), api.OK)
	want(t, "Commit", s.Commit(), api.OK)
	want(t, "Build", walk.Build(s, graphOf(nil)), api.OK)
	d.Crash()
	d.Power()
	s = opened(t, d)
	want(t, "behind a Commit and a fall", told(s), wanted)
}

// TestP1702IsNotHeldBackByTheLog asks that whether the log has room for it is told by Commit alone.
func TestP1702IsNotHeldBackByTheLog(t *testing.T) {
	_, s := made(t, api.Geo{Half: 30, Log: 4})
	want(t, "Build", builds(t, "a log of four", s, some()), api.OK)
	want(t, "Commit", s.Commit(), api.ErrLog)
}

// TestP1702WithoutPower asks that a store whose power went is written, as its cells are.
func TestP1702WithoutPower(t *testing.T) {
	d, s := made(t, api.Geo{Half: 30, Log: 60})
	fill(s, 20, 1)
	d.Arm(0)
	want(t, "Commit", s.Commit(), api.ErrOff)
	want(t, "Build", builds(t, "without power", s, some()), api.OK)
}

// TestP1702OverWhatMayNotBe asks that roots that name no object hold nothing back, nor what nobody made behind Free.
func TestP1702OverWhatMayNotBe(t *testing.T) {
	s := few(t)
	fill(s, 8, 99, 1, 2, 3, 4, 5, 6, 7)
	for cell := 27; cell < 76; cell++ {
		s.Set(cell, api.Wrap-1)
	}
	want(t, "Build", builds(t, "roots that name none", s, some()), api.OK)
}

// TestP1702FromStoreToStore asks that what was read from one is built in another one.
func TestP1702FromStoreToStore(t *testing.T) {
	s := few(t)
	g, _ := walk.From(s, 25, 20)
	_, other := made(t, api.Geo{Half: 11, Log: 30})
	want(t, "Build", builds(t, "another one", other, g), api.OK)
	want(t, "Left", space.Left(other), 0)
	want(t, "Of", told(other), from(s, 25, 20))
}

// TestP1702OfTheGreatest builds what fills a half, with as many objects as there may be.
func TestP1702OfTheGreatest(t *testing.T) {
	_, s := made(t, api.Geo{Half: 400, Log: 300})
	line := make([]api.Node, 201)
	for k := range line {
		line[k].Slots = nums(k)
	}
	want(t, "a line", tries(t, "a line", s, graphOf(nums(200), line...)), api.OK)
	want(t, "too long a line", tries(t, "too long a line", s, graphOf(nums(201), line...)), api.ErrHeap)
	tree := make([]api.Node, 1000)
	for k := range 13 {
		for i := range 15 {
			tree[k].Slots = append(tree[k].Slots, 15*k+i+2)
		}
	}
	tree[50].Words = make([]int, 9)
	want(t, "a tree", tries(t, "a tree", s, graphOf(nums(1), tree...)), api.OK)
	tree[196].Slots = nums(1000)
	want(t, "a tree, and what is not reached", tries(t, "a tree, and what is not reached", s, graphOf(nums(1), tree...)), api.OK)
	want(t, "one more", tries(t, "one more", s, graphOf(nums(1, 1000), tree...)), api.ErrHeap)
}

// drawnGraph is a graph of so many nodes, few or many of which are reached.
func drawnGraph(r *rand.Rand, nodes int) api.Graph {
	g := graphOf(nil)
	few := r.Intn(4)
	name := func() int {
		if r.Intn(4) < few {
			return 0
		}
		return r.Intn(nodes + 1)
	}
	for i := range g.Roots {
		g.Roots[i] = name()
	}
	for range nodes {
		var n api.Node
		for range r.Intn(6) {
			n.Slots = append(n.Slots, name())
		}
		for range r.Intn(4) {
			n.Words = append(n.Words, []int{r.Intn(900), 16_777_216 + r.Intn(3), r.Intn(api.Wrap)}[r.Intn(3)])
		}
		g.Nodes = append(g.Nodes, n)
	}
	return g
}

// TestP1701P1702Drawn builds drawn graphs, reads them, and what goes on with them: they are collected, step by step, programs write meanwhile, and another one is built of what was read.
func TestP1701P1702Drawn(t *testing.T) {
	r := rand.New(rand.NewSource(1701))
	for round := range 100 {
		g := api.Geo{Half: []int{8, 30, 100, 400}[round%4], Log: 300}
		_, s := made(t, g)
		_, other := made(t, g)
		for k := range 5 {
			what := fmt.Sprintf("round %d, %d", round, k)
			if builds(t, what, s, drawnGraph(r, 1+r.Intn(g.Half/4))) != api.OK {
				s.Abort()
			}
			wanted := told(s)
			want(t, what+": Of", wanted, asked(s.All(), s.All()[8:16]...))
			gc.Start(s)
			for !over(t, s) {
				want(t, what+": while it is collected", told(s), wanted)
				a, _ := field.Root(s, r.Intn(8))
				want(t, what+": a root was moved", told(s), wanted)
				hold(t, what, s, a, s.Get(16+r.Intn(2*g.Half)))
			}
			want(t, what+": behind that", told(s), wanted)
			want(t, what+": Used", space.Used(s), wanted.live)
			if a, _ := field.Root(s, r.Intn(8)); a != 0 {
				field.Put(s, a, 0, 0)
			}
			read, e := walk.Of(s)
			want(t, what+": Of", e, api.OK)
			put(other, space.Control{Free: 16})
			want(t, what+": built anew", builds(t, what, other, read), api.OK)
			want(t, what+": read anew", told(other), told(s))
			s.Commit() // where the log is too small for it, what goes on is not committed yet
		}
	}
}

// kinds are cells of all sorts, for a heap of a geometry.
func kinds(r *rand.Rand, g api.Geo) int {
	return []int{0, r.Intn(18 + 2*g.Half), 16_777_216, 16_777_216 + 256*r.Intn(3) + r.Intn(3), 16_777_216 + 256*r.Intn(17) + r.Intn(32), 33_554_432 + r.Intn(20+2*g.Half)}[r.Intn(6)]
}

// lay lays objects in both halves, one behind the other, and lets slots and roots name them; some of those of the half that is being left have moved. It tells where they are.
func lay(r *rand.Rand, s *store.Store, c space.Control) []int {
	g, l := s.Geo(), []int{0}
	put(s, c)
	for no := range 2 {
		end := 16 + g.Half*(no+1)
		if no == c.Space {
			end = c.Free
		}
		for at := 16 + g.Half*no; at < end; {
			f := form{r.Intn(4), r.Intn(3)}
			if at+f.size() > end {
				break
			}
			s.Set(at, f.header())
			if no == c.Space || c.Gc == 1 {
				l = append(l, at)
			}
			at += f.size()
		}
	}
	for _, at := range l[1:] {
		for k := 1; k < forms[s.Get(at)].size(); k++ {
			s.Set(at+k, l[r.Intn(len(l))])
		}
		isUsed := func(cell int) bool { return 16+g.Half*c.Space <= cell && cell < 16+g.Half*(c.Space+1) }
		if to := l[r.Intn(len(l))]; !isUsed(at) && isUsed(to) {
			s.Set(at, 33_554_432+to)
		}
	}
	for root := range 8 {
		s.Set(8+root, l[r.Intn(len(l))]*r.Intn(2))
	}
	return l
}

// TestP1701OfManyHeaps lays heaps of all kinds: as they are made, such as are other in a few cells, and such as never are.
func TestP1701OfManyHeaps(t *testing.T) {
	r := rand.New(rand.NewSource(17))
	sound := 0
	for _, g := range []api.Geo{{Half: 8, Log: 8}, {Half: 30, Log: 60}, {Half: 60, Log: 60}} {
		_, s := made(t, g)
		for round := range 1500 {
			for cell := 16; cell < 16+2*g.Half; cell++ {
				s.Set(cell, kinds(r, g))
			}
			c := going(g, r.Intn(2), r.Intn(g.Half+1))
			if r.Intn(3) == 0 {
				c.Gc, c.Scan = 0, 0
			}
			l := lay(r, s, c)
			for range []int{0, 1, 3, g.Half}[round%4] {
				s.Set(16+r.Intn(2*g.Half), kinds(r, g))
			}
			what := fmt.Sprintf("%+v, round %d", g, round)
			for range 3 {
				hold(t, what, s, l[r.Intn(len(l))], 0, l[r.Intn(len(l))], r.Intn(18+2*g.Half)*(r.Intn(8)/7))
			}
			if told(s).live > 0 {
				sound++
			}
			tries(t, what, s, drawnGraph(r, 1+r.Intn(3)))
		}
	}
	if sound < 1000 || sound > 3500 {
		t.Errorf("%d heaps are sound, and have something in them", sound)
	}
}
