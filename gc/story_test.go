package gc_test

import (
	"fmt"
	"math/rand"
	"slices"
	"testing"

	"flitting/alloc"
	"flitting/api"
	"flitting/field"
	"flitting/gc"
	"flitting/sector"
	"flitting/space"
	"flitting/store"
)

// picture is what is reached from some objects, numbered as it is met, and how many cells it has; read tells slots and words.
func picture[T comparable](refs []T, read func(T) ([]T, []int)) (string, int) {
	var none T
	var met []T
	numbers := map[T]int{none: 0}
	number := func(l []T) (text string) {
		for _, a := range l {
			if _, is := numbers[a]; !is {
				met = append(met, a)
				numbers[a] = len(met)
			}
			text += fmt.Sprintf(" %d", numbers[a])
		}
		return text
	}
	text, size := number(refs), 0
	for k := 0; k < len(met); k++ {
		slots, words := read(met[k])
		text += ";" + number(slots) + " " + fmt.Sprint(words)
		size += 1 + len(slots) + len(words)
	}
	return text, size
}

// seen is the picture of a heap, from its roots and some registers on, where the document's words say that objects lie as things are.
func seen(t *testing.T, s *store.Store, regs ...int) (string, int) {
	t.Helper()
	cells := s.All()
	places := func(l []int) []int {
		now := make([]int, len(l))
		for i, a := range l {
			at, _, is := lies(cells, a)
			if !is {
				t.Fatalf("%d is no object: %v", a, cells)
			}
			now[i] = at
		}
		return now
	}
	return picture(places(append(cells[8:16:16], regs...)), func(a int) ([]int, []int) {
		f, is := forms[cells[a]]
		if !is {
			t.Fatalf("no header at %d: %v", a, cells)
		}
		return places(cells[a+1 : a+1+f.slots]), cells[a+1+f.slots : a+f.size()]
	})
}

// lineUp asks that the objects of the half in use lie one behind the other up to Free.
func lineUp(t *testing.T, what string, s *store.Store) {
	t.Helper()
	used := 0
	for _, a := range alloc.Objects(s) {
		used += forms[s.Get(a)].size()
	}
	want(t, what+": the cells of all objects", used, space.Used(s))
}

// drawn makes a heap with objects that are reached, and such as are not: about so many cells are used. It tells registers.
func drawn(t *testing.T, r *rand.Rand, s *store.Store, cells int) []int {
	t.Helper()
	l := []int{0}
	pick := func() int { return l[r.Intn(len(l))] }
	for space.Used(s) < cells {
		a, errno := alloc.New(s, r.Intn(4), r.Intn(4))
		if errno != api.OK {
			break
		}
		l = append(l, a)
	}
	for _, a := range l[1:] {
		f := forms[s.Get(a)]
		for i := range f.slots {
			field.Put(s, a, i, pick())
		}
		for i := range f.words {
			field.SetWord(s, a, i, []int{a, pick(), s.Get(pick()), r.Intn(api.Wrap)}[r.Intn(4)])
		}
	}
	for i := range api.Roots {
		field.SetRoot(s, i, pick()*r.Intn(2)*r.Intn(2))
	}
	return []int{pick(), 0, pick() * r.Intn(2), pick() * r.Intn(2)}
}

// TestP1503WhatIsReachedStays does whole collections of drawn heaps, in steps of each number, in which nothing else is done: the same is reached behind each part of it, and at the end nothing else is there.
func TestP1503WhatIsReachedStays(t *testing.T) {
	r := rand.New(rand.NewSource(1503))
	for _, g := range []api.Geo{{Half: 8, Log: 8}, {Half: 30, Log: 60}, {Half: 120, Log: 300}, {Half: 400, Log: 300}} {
		for round := range 20 {
			_, s := made(t, g)
			regs := drawn(t, r, s, g.Half*(round%4+1)/4)
			for n := range 4 {
				what := fmt.Sprintf("%+v, round %d, steps of %d", g, round, n)
				was, live := seen(t, s, regs...)
				hold := func(what string) {
					now, _ := seen(t, s, regs...)
					want(t, what, now, was)
					lineUp(t, what, s)
				}
				over, errno := false, api.OK
				if n > 0 {
					regs, errno = gc.Start(s, regs...)
					want(t, what+": Start", errno, api.OK)
					hold(what + ": Start")
				}
				for k := 0; n > 0 && !over && k <= g.Half; k++ {
					over, errno = gc.Step(s, n)
					want(t, what+": Step", errno, api.OK)
					hold(what + ": Step")
				}
				if n == 0 {
					regs, errno = gc.All(s, regs...)
					want(t, what+": All", errno, api.OK)
					hold(what + ": All")
				}
				want(t, what+": Used", space.Used(s), live)
				want(t, what+": On", gc.On(s), false)
			}
		}
	}
}

// TestP1503WhatIsNotReachedGoes asks that garbage that names itself, and what is reached, goes, and that only registers hold what no root does.
func TestP1503WhatIsNotReachedGoes(t *testing.T) {
	s := few(t)
	fill(s, 22, 23) // 21 and 23 name what is lost, which names back
	fill(s, 24, 21)
	fill(s, 17, 0)
	play(t, "All, with a register", s, []deed{all(23)}, told(50))
	want(t, "Used, with a register", space.Used(s), 8)
	play(t, "All, without", s, []deed{all()}, told())
	want(t, "Used, without", space.Used(s), 4)
	fill(s, 10, 0)
	play(t, "All, of nothing", s, []deed{all(0, 0)}, told(0, 0))
	want(t, "Used, of nothing", space.Used(s), 0)
	want(t, "Left, of nothing", space.Left(s), 30)
}

// TestP1503AreWorking asks that what a collection does is cells as all others: Abort takes it back, it lasts with a Commit, and behind a fall it goes on where it was.
func TestP1503AreWorking(t *testing.T) {
	d, s := made(t, api.Geo{Half: 30, Log: 60})
	alloc.New(s, 1, 1)
	alloc.New(s, 0, 2)
	fill(s, 8, 16)
	fill(s, 17, 19, 7)
	want(t, "Commit", s.Commit(), api.OK)
	was, room := s.All(), s.Room()
	play(t, "All", s, []deed{all()}, told())
	want(t, "Room of the log", s.Room(), room)
	s.Abort()
	same(t, "the cells behind Abort", s.All(), was)
	play(t, "Start", s, []deed{start()}, told())
	want(t, "Commit", s.Commit(), api.OK)
	play(t, "the rest", s, []deed{step(2)}, scanned(true))
	s.Abort()
	want(t, "the control behind Abort", space.Get(s), space.Control{Space: 1, Free: 49, Gc: 1, Scan: 46})
	play(t, "one", s, []deed{step(1)}, scanned(false))
	want(t, "Commit", s.Commit(), api.OK)
	play(t, "the rest", s, []deed{step(1)}, scanned(true))
	d.Crash()
	d.Power()
	s = opened(t, d)
	want(t, "On behind a fall", gc.On(s), true)
	want(t, "the control behind a fall", space.Get(s), space.Control{Space: 1, Free: 52, Gc: 1, Scan: 49})
	play(t, "behind a fall", s, []deed{start(), step(1)}, wrong(api.ErrBusy), scanned(true))
	same(t, "the heap", s.All()[46:52], []int{16_777_216 + 256 + 1, 49, 7, 16_777_216 + 2, 0, 0})
}

// TestP1503WithoutPower asks that a store whose power went is collected, as its cells are written.
func TestP1503WithoutPower(t *testing.T) {
	d, s := made(t, api.Geo{Half: 30, Log: 60})
	drawn(t, rand.New(rand.NewSource(3)), s, 25)
	want(t, "Commit", s.Commit(), api.OK)
	was, live := seen(t, s)
	d.Arm(0)
	gc.Start(s)
	want(t, "Commit without power", s.Commit(), api.ErrOff)
	want(t, "On behind it", gc.On(s), false)
	holdAll(t, "without power", s)
	play(t, "without power", s, []deed{all()}, told())
	now, _ := seen(t, s)
	want(t, "what is reached", now, was)
	want(t, "Used", space.Used(s), live)
}

// collected begins a collection, if none goes on, and does it object by object, each part committed; the first error ends it.
func collected(s *store.Store) api.Errno {
	if !gc.On(s) {
		gc.Start(s)
	}
	for range 100 {
		if errno := s.Commit(); errno != api.OK {
			return errno
		}
		over, errno := gc.Step(s, 1)
		if errno != api.OK {
			return errno
		}
		if over {
			return s.Commit()
		}
	}
	return api.ErrFuel // it never ends
}

// TestP1503WhereverThePowerFalls lets it fall at each deed of a collection: opened anew the same is reached, and the collection is brought to its end.
func TestP1503WhereverThePowerFalls(t *testing.T) {
	r := rand.New(rand.NewSource(16))
	deeds := 0
	for _, g := range []api.Geo{{Half: 20, Log: 70}, {Half: 30, Log: 100}, {Half: 40, Log: 120}, {Half: 60, Log: 80}} {
		first, s := made(t, g)
		drawn(t, r, s, g.Half-3)
		want(t, "Commit", s.Commit(), api.OK)
		was, live := seen(t, s)
		falls := 0
		for off := true; off && falls < 1000; falls++ {
			d := first.Twin()
			s := opened(t, d)
			d.Arm(falls, r.Intn(2), r.Intn(2), r.Intn(2), r.Intn(2), r.Intn(2), r.Intn(2))
			off = collected(s) == api.ErrOff
			if off {
				d.Power()
				s = opened(t, d)
			}
			what := fmt.Sprintf("%+v, behind %d deeds", g, falls)
			now, _ := seen(t, s)
			want(t, what+": what is reached", now, was)
			lineUp(t, what, s)
			if off && gc.On(s) {
				want(t, what+": the rest", collected(s), api.OK)
			}
			now, _ = seen(t, s)
			want(t, what+": what is reached behind it", now, was)
			if off && space.Get(s).Space == 0 { // nothing of it lasted
				continue
			}
			want(t, what+": Used", space.Used(s), live)
		}
		deeds += falls
	}
	if deeds < 100 {
		t.Errorf("only %d deeds", deeds)
	}
}

// node is an object as a program sees it, without a place.
type node struct {
	slots []*node
	words []int
}

// copied are nodes of their own that are linked as some are.
func copied(l []*node) []*node {
	twins := map[*node]*node{}
	var twin func(n *node) *node
	twin = func(n *node) *node {
		if n == nil {
			return nil
		}
		if twins[n] == nil {
			c := &node{words: slices.Clone(n.words)}
			twins[n] = c
			for _, m := range n.slots {
				c.slots = append(c.slots, twin(m))
			}
		}
		return twins[n]
	}
	var c []*node
	for _, n := range l {
		c = append(c, twin(n))
	}
	return c
}

// story is a program that goes on while its heap is collected, and what it would see if nothing ever moved.
type story struct {
	t    *testing.T
	r    *rand.Rand
	what string
	d    *sector.Disk
	s    *store.Store
	regs []int // cells

	names []*node // what the roots name, then what the registers do
	kept  []*node // the roots as they were committed
	most  int     // cells that what goes on may come to use at most: those that were reached when it began, and those of what was made since
	was   int     // likewise, as it was committed
	full  int     // how often the heap was full
	overs int     // how many collections are over
}

func (y *story) name(reg int) **node { return &y.names[api.Roots+reg] }

// seen holds the picture of the heap against what the program would see.
func (y *story) seen() int {
	y.t.Helper()
	now, live := seen(y.t, y.s, y.regs...)
	wanted, _ := picture(y.names, func(n *node) ([]*node, []int) { return n.slots, n.words })
	want(y.t, y.what, now, wanted)
	return live
}

func (y *story) ok(errno api.Errno) {
	y.t.Helper()
	want(y.t, y.what, errno, api.OK)
}

// back is what an Abort, or a fall, does to a program.
func (y *story) back() {
	y.regs = make([]int, api.Refs)
	y.names = append(copied(y.kept), make([]*node, api.Refs)...)
	y.most = y.was
}

func (y *story) abort() {
	y.s.Abort()
	y.back()
}

// isFull tells whether the heap was; then the program takes all back.
func (y *story) isFull(errno api.Errno) bool {
	if errno != api.ErrHeap {
		y.ok(errno)
		return false
	}
	y.full++
	y.abort()
	return true
}

// make lets a register name a new object. Where it has no room nothing is done.
func (y *story) make(reg int) {
	slots, words := y.r.Intn(4), y.r.Intn(3)
	a, errno := alloc.New(y.s, slots, words)
	if errno == api.ErrHeap {
		y.full++
		return
	}
	y.ok(errno)
	y.regs[reg] = a
	*y.name(reg) = &node{make([]*node, slots), make([]int, words)}
	y.most += 1 + slots + words
}

// turn reads or writes a slot or a word of the object of a register.
func (y *story) turn(reg, other, do int) {
	n, a := *y.name(reg), y.regs[reg]
	switch {
	case n == nil:
	case do == 0 && len(n.slots) > 0:
		i := y.r.Intn(len(n.slots))
		v, errno := field.Load(y.s, a, i)
		if !y.isFull(errno) {
			y.regs[other], *y.name(other) = v, n.slots[i]
		}
	case do == 1 && len(n.slots) > 0:
		i := y.r.Intn(len(n.slots))
		y.ok(field.Put(y.s, a, i, y.regs[other]))
		n.slots[i] = *y.name(other)
	case len(n.words) > 0:
		i := y.r.Intn(len(n.words))
		v, errno := field.Word(y.s, a, i)
		y.ok(errno)
		want(y.t, y.what+": a word", v, n.words[i])
		n.words[i] = []int{a, y.s.Get(a), y.r.Intn(api.Wrap)}[y.r.Intn(3)]
		y.ok(field.SetWord(y.s, a, i, n.words[i]))
	}
}

// program does one thing that programs do.
func (y *story) program() {
	reg, other, root := y.r.Intn(api.Refs), y.r.Intn(api.Refs), y.r.Intn(api.Roots)
	switch do := y.r.Intn(16); do {
	case 0, 1, 2, 3:
		y.make(reg)
	case 4, 5:
		y.ok(field.SetRoot(y.s, root, y.regs[reg]))
		y.names[root] = *y.name(reg)
	case 6, 7:
		a, errno := field.Root(y.s, root)
		if !y.isFull(errno) {
			y.regs[reg], *y.name(reg) = a, y.names[root]
		}
	case 8:
		y.regs[reg], *y.name(reg) = 0, nil
	case 9:
		y.lasts(y.r.Intn(10))
	default:
		y.turn(reg, other, do%3)
	}
}

// lasts commits, makes a checkpoint, takes back, or lets the power fall.
func (y *story) lasts(do int) {
	switch do {
	case 0:
		y.abort()
	case 1:
		y.d.Crash()
		y.d.Power()
		y.s = opened(y.t, y.d)
		y.back()
	case 2, 3:
		y.ok(y.s.Mark())
	default:
		y.ok(y.s.Commit())
		y.kept, y.was = copied(y.names[:api.Roots]), y.most
	}
}

// collect does something of a collection.
func (y *story) collect() {
	if !gc.On(y.s) {
		live := y.seen()
		regs, errno := gc.Start(y.s, y.regs...)
		y.ok(errno)
		y.regs, y.most = regs, live
		return
	}
	n := y.r.Intn(4)
	over, errno := gc.Step(y.s, n)
	if !y.isFull(errno) && over {
		y.overs++
		if used := space.Used(y.s); used > y.most || used < y.seen() {
			y.t.Errorf("%s: it is over: Used %d, %d were reached or made", y.what, used, y.most)
		}
	}
}

// end brings the collection that goes on to its end, where there is room for that, and does another one: only what is reached is there then.
func (y *story) end() {
	regs, errno := gc.All(y.s, y.regs...)
	if y.isFull(errno) {
		y.seen()
		return
	}
	want(y.t, y.what+": how many registers", len(regs), api.Refs)
	y.regs = regs
	live := y.seen()
	if y.regs, errno = gc.All(y.s, y.regs...); errno != api.OK {
		y.t.Fatalf("%s: %d", y.what, errno)
	}
	y.seen()
	want(y.t, y.what+": Used", space.Used(y.s), live)
}

// TestP1503WhileProgramsGoOn plays programs that make objects, link them, let go, commit, take back and fall, while collections go on: what they see is what it would be if nothing ever moved.
func TestP1503WhileProgramsGoOn(t *testing.T) {
	r := rand.New(rand.NewSource(151))
	full, overs := 0, 0
	for _, g := range []api.Geo{{Half: 30, Log: 100}, {Half: 60, Log: 150}, {Half: 110, Log: 250}} {
		for number := range 40 {
			d, s := made(t, g)
			y := &story{t: t, r: r, d: d, s: s, kept: make([]*node, api.Roots)}
			y.back()
			for k := range 300 {
				y.what = fmt.Sprintf("%+v, story %d, step %d", g, number, k)
				if r.Intn(number%5+3) == 0 {
					y.collect()
				} else {
					y.program()
				}
				y.seen()
				lineUp(t, y.what, y.s)
			}
			y.end()
			full, overs = full+y.full, overs+y.overs
		}
	}
	if full < 100 || overs < 100 {
		t.Errorf("full %d times, %d collections over", full, overs)
	}
}
