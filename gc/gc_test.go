package gc_test

import (
	"fmt"
	"math"
	"math/rand"
	"slices"
	"testing"

	"flitting/alloc"
	"flitting/api"
	"flitting/gc"
	"flitting/sector"
	"flitting/space"
	"flitting/store"
)

func want[T comparable](t *testing.T, what string, got, wanted T) {
	t.Helper()
	if got != wanted {
		t.Errorf("%s: %#v, not %#v", what, got, wanted)
	}
}

// same holds lists against each other; one that is nil and one that is empty are the same.
func same(t *testing.T, what string, got, wanted []int) {
	t.Helper()
	if !slices.Equal(got, wanted) {
		t.Errorf("%s: %v, not %v", what, got, wanted)
	}
}

// made is a disk and a store that was formatted.
func made(t *testing.T, g api.Geo) (*sector.Disk, *store.Store) {
	t.Helper()
	d := sector.New(1000)
	want(t, "Format", store.Format(d, g), api.OK)
	return d, opened(t, d)
}

func opened(t *testing.T, d *sector.Disk) *store.Store {
	t.Helper()
	s, e := store.Open(d)
	want(t, "Open", e, api.OK)
	return s
}

// put gives the cells of the control values as they are, whether they may be or not.
func put(s *store.Store, c space.Control) { fill(s, 0, c.Space, c.Free, c.Gc, c.Scan) }

// fill gives the cells from at on values.
func fill(s *store.Store, at int, values ...int) {
	for i, v := range values {
		s.Set(at+i, v)
	}
}

// going is the control of a collection that goes on into a half.
func going(g api.Geo, no, used int) space.Control {
	base := 16 + no*g.Half
	return space.Control{Space: no, Free: base + used, Gc: 1, Scan: base}
}

// deed is a call and what is handed in to it.
type deed struct {
	call string
	n    int
	regs []int
}

func start(regs ...int) deed { return deed{"Start", 0, regs} }
func step(n int) deed        { return deed{"Step", n, nil} }
func all(regs ...int) deed   { return deed{"All", 0, regs} }

// answer is what a call tells; what stands beside an error, and what it does not tell, must be zero.
type answer struct {
	regs  string
	over  bool
	errno api.Errno
}

// told are registers as an answer.
func told(regs ...int) answer { return answer{regs: fmt.Sprint(regs)} }

// wrong is an error as an answer.
func wrong(errno api.Errno) answer { return answer{"[]", false, errno} }

// scanned is the answer of a step.
func scanned(over bool) answer { return answer{"[]", over, api.OK} }

func do(s *store.Store, d deed) (r answer) {
	var regs []int
	switch d.call {
	case "Start":
		regs, r.errno = gc.Start(s, d.regs...)
	case "Step":
		r.over, r.errno = gc.Step(s, d.n)
	case "All":
		regs, r.errno = gc.All(s, d.regs...)
	}
	r.regs = fmt.Sprint(regs)
	return r
}

// play does deeds, and holds what each one tells.
func play(t *testing.T, what string, s *store.Store, l []deed, answers ...answer) {
	t.Helper()
	want(t, what+": how many", len(l), len(answers))
	for k, d := range l {
		want(t, fmt.Sprintf("%s: %d: %+v", what, k, d), do(s, d), answers[k])
	}
}

// isRight tells whether the control of some cells may be, by the document's words.
func isRight(cells []int) bool {
	if len(cells) == 0 {
		return false
	}
	half := (len(cells) - 16) / 2
	no, free, gc, scan := cells[0], cells[1], cells[2], cells[3]
	if no != 0 && no != 1 {
		return false
	}
	base := 16 + no*half
	return base <= free && free <= base+half && (gc == 0 && scan == 0 || gc == 1 && base <= scan && scan <= free)
}

// form is how many slots and words an object has.
type form struct{ slots, words int }

func (f form) size() int { return 1 + f.slots + f.words }

// forms are those of all headers, by the document's words.
var forms = laidForms()

func laidForms() map[int]form {
	m := map[int]form{}
	for slots := 0; slots <= 15; slots++ {
		for words := 0; words <= 30; words++ {
			m[16_777_216+256*slots+words] = form{slots, words}
		}
	}
	return m
}

// lies tells where an object lies as things are, and how many cells must be moved from there, by the document's words.
func lies(cells []int, a int) (int, int, bool) {
	half := (len(cells) - 16) / 2
	used, left := 16+cells[0]*half, 16+half-cells[0]*half
	if a == 0 || used <= a && a < used+half {
		return a, 0, true
	}
	if cells[2] == 0 || a < left || a >= left+half {
		return 0, 0, false
	}
	if to := cells[a] - 33_554_432; used <= to && to < used+half {
		return to, 0, true
	}
	f, is := forms[cells[a]]
	if !is || a+f.size() > left+half {
		return 0, 0, false
	}
	return a, f.size(), true
}

// followed is where an object is now, by the document's words; what moves is moved in the cells.
func followed(cells []int, a int) (int, api.Errno) {
	half := (len(cells) - 16) / 2
	at, size, is := lies(cells, a)
	free := cells[1]
	if !is {
		return 0, api.ErrCorrupt
	}
	if size == 0 {
		return at, api.OK
	}
	if free+size > 16+(1+cells[0])*half {
		return 0, api.ErrHeap
	}
	copy(cells[free:free+size], cells[at:at+size])
	cells[at], cells[1] = 33_554_432+free, free+size
	return free, api.OK
}

// asked is what a call must tell, by the document's words; the cells are turned to what they must be behind it.
func asked(cells []int, d deed) answer {
	switch d.call {
	case "Start":
		return askedStart(cells, d.regs)
	case "Step":
		return askedStep(cells, d.n)
	}
	r := told(d.regs...)
	if len(cells) == 0 || cells[2] != 1 {
		r = askedStart(cells, d.regs)
	}
	if r.errno == api.OK {
		if e := askedStep(cells, 10_000).errno; e != api.OK {
			r = wrong(e)
		}
	}
	return r
}

func askedStart(cells []int, regs []int) answer {
	if !isRight(cells) {
		return wrong(api.ErrArg)
	}
	if cells[2] == 1 {
		return wrong(api.ErrBusy)
	}
	cells[0] = 1 - cells[0]
	cells[1] = 16 + cells[0]*(len(cells)-16)/2
	cells[2], cells[3] = 1, cells[1]
	for root := 8; root < 16; root++ {
		now, e := followed(cells, cells[root])
		if e != api.OK {
			return wrong(e)
		}
		cells[root] = now
	}
	var l []int
	for _, a := range regs {
		now, e := followed(cells, a)
		if e != api.OK {
			return wrong(e)
		}
		l = append(l, now)
	}
	return told(l...)
}

func askedStep(cells []int, n int) answer {
	if n < 0 || !isRight(cells) {
		return wrong(api.ErrArg)
	}
	if cells[2] == 0 {
		return scanned(true)
	}
	for done := 0; cells[3] < cells[1]; done++ {
		if done == n {
			return scanned(false)
		}
		a := cells[3]
		f, is := forms[cells[a]]
		if !is || a+f.size() > cells[1] {
			return wrong(api.ErrCorrupt)
		}
		for slot := a + 1; slot <= a+f.slots; slot++ {
			now, e := followed(cells, cells[slot])
			if e != api.OK {
				return wrong(e)
			}
			cells[slot] = now
		}
		cells[3] = a + f.size()
	}
	cells[2], cells[3] = 0, 0
	return scanned(true)
}

// act does a deed, and holds the answer, what was handed in, and each cell behind it, against the document's words.
func act(t *testing.T, what string, s *store.Store, d deed) {
	t.Helper()
	cells, regs := s.All(), slices.Clone(d.regs)
	wanted := asked(cells, d)
	want(t, fmt.Sprintf("%s: %+v", what, d), do(s, d), wanted)
	if now := s.All(); !slices.Equal(now, cells) {
		t.Errorf("%s: %+v: cells %v, not %v", what, d, now, cells)
	}
	same(t, fmt.Sprintf("%s: %+v: what was handed in", what, d), d.regs, regs)
	want(t, fmt.Sprintf("%s: On behind %+v", what, d), gc.On(s), len(cells) > 2 && cells[2] == 1)
}

// hold acts, and turns back then what was turned.
func hold(t *testing.T, what string, s *store.Store, d deed) {
	t.Helper()
	was := s.All()
	act(t, what, s, d)
	for cell, v := range s.All() {
		if v != was[cell] {
			s.Set(cell, was[cell])
		}
	}
}

// holdAll holds all calls, with some registers and some numbers of steps handed in.
func holdAll(t *testing.T, what string, s *store.Store, regs ...int) {
	t.Helper()
	for _, d := range []deed{start(), start(regs...), all(), all(regs...)} {
		hold(t, what, s, d)
	}
	for _, n := range []int{math.MinInt, -1, 0, 1, 2, 3, 5, 400, math.MaxInt} {
		hold(t, what, s, step(n))
	}
}

// few is a store with objects at 16 (slots: 21, 16; a word that looks like a cell), 20 (lost), 21 (a slot: none), 23 (lost, names 16); the root 2 is 16.
func few(t *testing.T) *store.Store {
	t.Helper()
	_, s := made(t, api.Geo{Half: 30, Log: 60})
	for _, shape := range []form{{2, 1}, {0, 0}, {1, 0}, {1, 0}} {
		alloc.New(s, shape.slots, shape.words)
	}
	fill(s, 17, 21, 16, 20)
	fill(s, 24, 16)
	fill(s, 10, 16)
	return s
}

func TestP1501Examples(t *testing.T) {
	s := few(t)
	play(t, "Start", s, []deed{start(0, 23, 16, 23)}, told(0, 50, 46, 50))
	want(t, "the control behind Start", space.Get(s), space.Control{Space: 1, Free: 52, Gc: 1, Scan: 46})
	same(t, "the roots", s.All()[8:16], []int{0, 0, 46, 0, 0, 0, 0, 0})
	same(t, "what was moved", s.All()[46:52], []int{16_777_216 + 2*256 + 1, 21, 16, 20, 16_777_216 + 256, 16})
	same(t, "what is left", s.All()[16:25], []int{33_554_432 + 46, 21, 16, 20, 16_777_216, 16_777_216 + 256, 0, 33_554_432 + 50, 16})
	play(t, "Start, twice", s, []deed{start(), start(16)}, wrong(api.ErrBusy), wrong(api.ErrBusy))
	play(t, "Step", s, []deed{step(0), step(1)}, scanned(false), scanned(false))
	want(t, "the control behind a step", space.Get(s), space.Control{Space: 1, Free: 54, Gc: 1, Scan: 50})
	same(t, "what was scanned", s.All()[46:54], []int{16_777_216 + 2*256 + 1, 52, 46, 20, 16_777_216 + 256, 16, 16_777_216 + 256, 0})
	play(t, "Step", s, []deed{step(1), step(0), step(1), step(0), step(1)}, scanned(false), scanned(false), scanned(true), scanned(true), scanned(true))
	want(t, "the control behind all", space.Get(s), space.Control{Space: 1, Free: 54})
	same(t, "all of it", s.All()[46:54], []int{16_777_216 + 2*256 + 1, 52, 46, 20, 16_777_216 + 256, 46, 16_777_216 + 256, 0})
}

func TestP1502Examples(t *testing.T) {
	_, s := made(t, api.Geo{Half: 30, Log: 60})
	alloc.New(s, 1, 3)
	alloc.New(s, 2, 4)
	fill(s, 8, 21)
	play(t, "All", s, []deed{all()}, told())
	want(t, "Used", space.Used(s), 7)
	want(t, "the root", s.Get(8), 46)
	play(t, "All, with a register", s, []deed{all(46, 0, 46)}, told(16, 0, 16))
	want(t, "the root behind that", s.Get(8), 16)
	want(t, "the control", space.Get(s), space.Control{Free: 23})
	want(t, "On", gc.On(s), false)
}

// TestP1501WhatGoesWrongFirst asks, where several go wrong, for the one that is named first, and that nothing is done then.
func TestP1501WhatGoesWrongFirst(t *testing.T) {
	s := few(t)
	for _, c := range []space.Control{{Free: 5}, {Free: 5, Gc: 1}, {Space: 1, Free: 50, Gc: 1, Scan: 45}, {Space: 1, Free: 50, Gc: 1, Scan: 51}, {Free: 25, Scan: 16}, {Free: 25, Gc: 2, Scan: 16}, {Space: 2, Free: 25}} {
		put(s, c)
		was := s.All()
		play(t, fmt.Sprintf("%+v", c), s, []deed{start(), start(99), step(0), step(1), step(-1), all(), all(99)}, wrong(1), wrong(1), wrong(1), wrong(1), wrong(1), wrong(1), wrong(1))
		same(t, fmt.Sprintf("%+v: the cells", c), s.All(), was)
	}
	put(s, space.Control{Free: 25})
	play(t, "no collection", s, []deed{step(-1), step(math.MinInt), step(0), step(1), step(math.MaxInt)}, wrong(1), wrong(1), scanned(true), scanned(true), scanned(true))
	put(s, going(api.Geo{Half: 30}, 1, 0))
	play(t, "a collection", s, []deed{start(99), step(-1), start()}, wrong(api.ErrBusy), wrong(1), wrong(api.ErrBusy))
	want(t, "the control", space.Get(s), going(api.Geo{Half: 30}, 1, 0))
}

// TestP1501P1502OfEveryControl holds all calls with each control about those that may be.
func TestP1501P1502OfEveryControl(t *testing.T) {
	g := api.Geo{Half: 8, Log: 8}
	_, s := made(t, g)
	fill(s, 8, 16, 0, 28, 24, 20)
	for cell := 16; cell < 32; cell += 4 {
		fill(s, cell, 16_777_216+256+1, 48-cell, 16_777_216+1, 5)
	}
	for no := 0; no <= 2; no++ {
		for free := 14; free <= 34; free++ {
			for gc := 0; gc <= 2; gc++ {
				for _, scan := range []int{0, 1, 15, 16, 18, 20, 23, 24, 25, 28, 32, 33, api.Wrap - 1} {
					c := space.Control{Space: no, Free: free, Gc: gc, Scan: scan}
					put(s, c)
					holdAll(t, fmt.Sprintf("%+v", c), s, 0, 20, 24)
				}
			}
		}
	}
	for cell := range 4 {
		put(s, space.Control{Free: 20})
		s.Set(cell, api.Wrap-1)
		holdAll(t, fmt.Sprintf("cell %d the greatest", cell), s, 16)
	}
}

// TestP1501P1502OfEveryCell holds all calls on heaps in which all cells are alike: headers of some form, forwards, or neither.
func TestP1501P1502OfEveryCell(t *testing.T) {
	for _, g := range []api.Geo{{Half: 8, Log: 4}, {Half: 30, Log: 60}} {
		_, s := made(t, g)
		for no := range 2 {
			base, left := 16+no*g.Half, 16+(1-no)*g.Half
			for _, v := range []int{0, 1, 16, base, left, 16_777_215, 16_777_216, 16_777_217, 16_777_216 + 256, 16_777_216 + 31, 16_777_216 + 256*16, 33_554_432 + base, 33_554_432 + left, api.Wrap - 1} {
				for cell := 16; cell < 16+2*g.Half; cell++ {
					s.Set(cell, v)
				}
				for used := range g.Half + 1 {
					for _, c := range []space.Control{{Space: no, Free: base + used}, going(g, no, used)} {
						put(s, c)
						fill(s, 8, 0, base+3, left+1, left+3)
						holdAll(t, fmt.Sprintf("%+v, %+v, all cells %d", g, c, v), s, 0, left+3, base+used/2)
					}
				}
			}
		}
	}
}

// TestP1501TheRootsFirst asks for the order in which objects are moved: the roots' from the first one on, then the registers', then the slots' of each.
func TestP1501TheRootsFirst(t *testing.T) {
	_, s := made(t, api.Geo{Half: 60, Log: 100})
	for range 15 {
		alloc.New(s, 2, 1) // 16, 20, .. 72
	}
	fill(s, 8, 72, 68, 0, 60, 64, 68, 20, 16)
	fill(s, 73, 24, 28)
	fill(s, 49, 40, 52)
	fill(s, 69, 24, 72)
	play(t, "Start", s, []deed{start(48, 44, 0, 72, 48, 56)}, told(100, 104, 0, 76, 100, 108))
	same(t, "the roots", s.All()[8:16], []int{76, 80, 0, 84, 88, 80, 92, 96})
	play(t, "Step", s, []deed{step(1), step(1), step(5)}, scanned(false), scanned(false), scanned(false))
	same(t, "slots of the first root", s.All()[77:79], []int{112, 116})
	same(t, "slots of the second root", s.All()[81:83], []int{112, 76})
	same(t, "slots of the first register", s.All()[101:103], []int{120, 124})
	want(t, "Scan", space.Get(s).Scan, 104)
	play(t, "the rest", s, []deed{step(6), step(1)}, scanned(true), scanned(true))
	want(t, "the control", space.Get(s), space.Control{Space: 1, Free: 128})
}

// TestP1501EachRoot asks for each root alone, and that cells beside the roots are none.
func TestP1501EachRoot(t *testing.T) {
	for root := 8; root < 16; root++ {
		s := few(t)
		fill(s, 4, 16, 20, 21, 23)
		fill(s, 10, 0)
		fill(s, root, 21)
		act(t, fmt.Sprintf("the root %d", root), s, start())
		want(t, fmt.Sprintf("the root %d", root), s.Get(root), 46)
		same(t, "cells beside", s.All()[4:8], []int{16, 20, 21, 23})
		want(t, "Used", space.Used(s), 2)
	}
}

// TestP1501Registers asks that there may be as many as one likes, that an answer is a list of its own, and what was handed in stays as it is.
func TestP1501Registers(t *testing.T) {
	many := slices.Repeat([]int{23, 0, 16, 21}, 500)
	for _, call := range []string{"Start", "All"} {
		s := few(t)
		regs := slices.Clone(many)
		var now []int
		var e api.Errno
		if call == "Start" {
			now, e = gc.Start(s, regs...)
		} else {
			now, e = gc.All(s, regs...)
		}
		want(t, call, e, api.OK)
		same(t, call+": what was handed in", regs, many)
		same(t, call+": the registers", now, slices.Repeat([]int{50, 0, 46, 52}, 500))
		now[0] = 1
		want(t, call+": what was handed in, behind a write", regs[0], 23)
		want(t, call+": how many", len(now), 2000)
	}
	s := few(t)
	gc.Start(s)
	regs := []int{7, 50}
	now, e := gc.All(s, regs...)
	want(t, "All, while one goes on", e, api.OK)
	now[0], now[1] = 1, 2
	same(t, "what was handed in", regs, []int{7, 50})
}

// TestP1501AnErrorOfARoot asks that what was done ahead of it stays.
func TestP1501AnErrorOfARoot(t *testing.T) {
	for root := 8; root < 16; root++ {
		for _, v := range []int{1, 15, 17, 45, 76, api.Wrap - 1} {
			s := few(t)
			fill(s, 8, 16, 0, 21, 16, 20, 0, 23, 16)
			fill(s, root, v)
			what := fmt.Sprintf("the root %d is %d", root, v)
			roots := []int{46, 0, 50, 46, 52, 0, 53, 46}[:root-8]
			was := s.All()[root:16]
			hold(t, what, s, all(99))
			act(t, what, s, start(99))
			same(t, what+": roots ahead", s.All()[8:root], roots)
			same(t, what+": roots behind", s.All()[root:16], was)
			want(t, what+": it goes on", gc.On(s), true)
			play(t, what+": then", s, []deed{start()}, wrong(api.ErrBusy))
			act(t, what+": then", s, all(99))
		}
	}
}

// TestP1501AnErrorOfARegister asks the same: the roots, and the registers ahead of it, were moved, and none is told.
func TestP1501AnErrorOfARegister(t *testing.T) {
	for _, v := range []int{math.MinInt, -1, 1, 15, 17, 45, 76, api.Wrap - 1, api.Wrap + 16, math.MaxInt} {
		s := few(t)
		what := fmt.Sprintf("a register is %d", v)
		play(t, what, s, []deed{start(23, v, 21)}, wrong(api.ErrCorrupt))
		want(t, what+": the control", space.Get(s), space.Control{Space: 1, Free: 52, Gc: 1, Scan: 46})
		want(t, what+": the one ahead", s.Get(23), 33_554_432+50)
		want(t, what+": the one behind", s.Get(21), 16_777_216+256)
		s = few(t)
		play(t, what, s, []deed{all(v)}, wrong(api.ErrCorrupt))
		want(t, what+": nothing was scanned", space.Get(s), space.Control{Space: 1, Free: 50, Gc: 1, Scan: 46})
	}
}

// TestP1501WhatLiesThereAlready asks that a root or a register that names a cell of the half that is taken in use is followed as Follow does: it stays.
func TestP1501WhatLiesThereAlready(t *testing.T) {
	s := few(t)
	fill(s, 8, 60, 0, 0)
	play(t, "Start", s, []deed{start(46, 75)}, told(46, 75))
	want(t, "the root", s.Get(8), 60)
	want(t, "the control", space.Get(s), space.Control{Space: 1, Free: 46, Gc: 1, Scan: 46})
}

// TestP1501NothingReached asks that a collection of nothing is over with the first step, also of 0, and not ahead of it.
func TestP1501NothingReached(t *testing.T) {
	for _, n := range []int{0, 1, math.MaxInt} {
		s := few(t)
		fill(s, 10, 0)
		play(t, "nothing", s, []deed{start()}, told())
		want(t, "the control behind Start", space.Get(s), space.Control{Space: 1, Free: 46, Gc: 1, Scan: 46})
		play(t, "nothing", s, []deed{step(-1), step(n)}, wrong(1), scanned(true))
		want(t, "the control behind it", space.Get(s), space.Control{Space: 1, Free: 46})
	}
}

// TestP1501HowManyAreScanned asks for each number of objects, step by step, in heaps of objects of several sizes: it is objects that are counted.
func TestP1501HowManyAreScanned(t *testing.T) {
	for n := range 12 {
		_, s := made(t, api.Geo{Half: 80, Log: 100})
		for k := range 10 {
			a, _ := alloc.New(s, 1+k%3, k%4)
			s.Set(a+1, s.Get(8))
			s.Set(a+1+k%3, s.Get(8))
			s.Set(8, a)
		}
		live := space.Used(s)
		act(t, "Start", s, start())
		for done := n; done < 20; done += n {
			r := do(s, step(n))
			want(t, fmt.Sprintf("Step(%d), %d behind it", n, done), r, scanned(n > 0 && done >= 10))
			if c := space.Get(s); !r.over {
				scan := alloc.Objects(s)[done]
				want(t, fmt.Sprintf("Step(%d): Scan, %d behind it", n, done), c.Scan, scan)
			}
			if r.over || n == 0 {
				break
			}
		}
		if n > 0 {
			want(t, "Used", space.Used(s), live)
		}
	}
}

// TestP1501OverAtTheEnd asks that the collection is over behind the last object, not with a step more.
func TestP1501OverAtTheEnd(t *testing.T) {
	g := api.Geo{Half: 20, Log: 60}
	for no := range 2 {
		base := 16 + 20*no
		for n := range 6 {
			_, s := made(t, g)
			put(s, going(g, no, 20))
			for k := range 5 {
				fill(s, base+4*k, 16_777_216+3)
			}
			want(t, fmt.Sprintf("half %d, %d of five", no, n), do(s, step(n)), scanned(n == 5))
			want(t, fmt.Sprintf("half %d, %d of five: the rest", no, n), do(s, step(5-n)), scanned(true))
			want(t, "the control", space.Get(s), space.Control{Space: no, Free: base + 20})
		}
	}
}

// TestP1501NoHeaderAtScan asks that what has no header, or passes Free, is not scanned, and that the objects ahead of it are.
func TestP1501NoHeaderAtScan(t *testing.T) {
	g := api.Geo{Half: 50, Log: 60}
	_, s := made(t, g)
	for no := range 2 {
		base, left := 16+50*no, 66-50*no
		for ahead := range 3 {
			for _, v := range []int{0, 5, base, left, 16_777_215, 16_777_216 + 31, 16_777_216 + 16*256, 33_554_432 + base, 33_554_432 + left, 33_554_432, api.Wrap - 1, 16_777_216 + 256 + 3, 16_777_216 + 15*256 + 30} {
				put(s, going(g, no, 2*ahead+4))
				fill(s, left, 16_777_216+1, 7)
				for k := range ahead {
					fill(s, base+2*k, 16_777_216+256, base)
				}
				fill(s, base+2*ahead, v, left, 0, 0)
				what := fmt.Sprintf("half %d, %d ahead, %d there", no, ahead, v)
				hold(t, what, s, step(ahead))
				hold(t, what, s, all(5, 6))
				act(t, what, s, step(ahead+1))
				want(t, what+": Scan", space.Get(s).Scan, base+2*ahead)
				want(t, what+": its slot", s.Get(base+2*ahead+1), left)
				play(t, what+": again", s, []deed{step(1), step(0), all()}, wrong(api.ErrCorrupt), scanned(false), wrong(api.ErrCorrupt))
			}
		}
	}
}

// TestP1501OfEveryForm scans objects of each form, with Free at each place about their end; only slots are followed, all of them.
func TestP1501OfEveryForm(t *testing.T) {
	g := api.Geo{Half: 70, Log: 60}
	_, s := made(t, g)
	for header, f := range forms {
		no := (f.slots + f.words) % 2
		base, left := 16+70*no, 86-70*no
		for cell := 16; cell < 156; cell++ {
			s.Set(cell, 16_777_216)
		}
		put(s, going(g, no, 0))
		s.Set(base, header)
		for k := 1; k < f.size(); k++ {
			s.Set(base+k, left+k%9)
		}
		for passes := -1; passes <= 1; passes++ {
			s.Set(api.FreeAt, base+f.size()+passes)
			what := fmt.Sprintf("half %d, header %d, Free %d farther than its end", no, header, passes)
			if passes == -1 && f.size() > 1 {
				play(t, what, s, []deed{step(1)}, wrong(api.ErrCorrupt))
			}
			hold(t, what, s, step(0))
			hold(t, what, s, step(1))
			hold(t, what, s, step(3))
			hold(t, what, s, all())
		}
	}
}

// TestP1501FreeAheadOfItsSlots asks that an object must end below Free as it is ahead of its slots: what is moved by these makes no room for it.
func TestP1501FreeAheadOfItsSlots(t *testing.T) {
	_, s := made(t, api.Geo{Half: 30, Log: 60})
	put(s, space.Control{Space: 1, Free: 48, Gc: 1, Scan: 46})
	fill(s, 16, 16_777_216+5)
	fill(s, 46, 16_777_216+2*256, 16, 0)
	play(t, "it passes Free", s, []deed{step(1)}, wrong(api.ErrCorrupt))
	want(t, "what its slot names", s.Get(16), 16_777_216+5)
	s.Set(api.FreeAt, 49)
	play(t, "it ends at Free", s, []deed{step(1), step(1)}, scanned(false), scanned(true))
	want(t, "what its slot names then", s.Get(16), 33_554_432+49)
}

// TestP1501AnErrorOfASlot asks that the slots ahead of it, and the objects that were moved, stay as they are, that Scan is still there, and that it goes on when that slot is none any more.
func TestP1501AnErrorOfASlot(t *testing.T) {
	for slot := range 4 {
		for _, v := range []int{1, 15, 20, 45, 76, api.Wrap - 1} {
			_, s := made(t, api.Geo{Half: 30, Log: 60})
			put(s, space.Control{Space: 1, Free: 53, Gc: 1, Scan: 46})
			fill(s, 16, 16_777_216, 16_777_216, 16_777_216, 16_777_216, 5)
			fill(s, 46, 16_777_216+1, 9, 16_777_216+4*256, 16, 17, 18, 19)
			fill(s, 49+slot, v)
			what := fmt.Sprintf("the slot %d is %d", slot, v)
			hold(t, what, s, all(7))
			hold(t, what, s, step(1))
			play(t, what, s, []deed{step(4)}, wrong(api.ErrCorrupt))
			want(t, what+": the control", space.Get(s), space.Control{Space: 1, Free: 53 + slot, Gc: 1, Scan: 48})
			same(t, what+": slots ahead", s.All()[49:49+slot], []int{53, 54, 55}[:slot])
			same(t, what+": slots behind", s.All()[50+slot:53], []int{17, 18, 19}[slot:])
			play(t, what+": again", s, []deed{step(1), step(0), all()}, wrong(api.ErrCorrupt), scanned(false), wrong(api.ErrCorrupt))
			want(t, what+": nothing more was moved", space.Get(s).Free, 53+slot)
			s.Set(49+slot, 0)
			play(t, what+": mended", s, []deed{step(3), step(1)}, scanned(false), scanned(true))
			want(t, what+": behind that", space.Get(s), space.Control{Space: 1, Free: 56})
		}
	}
}

// TestP1501TheHalfIsFull asks that what has no room is told, of roots, registers and slots; and that what just fits is moved.
func TestP1501TheHalfIsFull(t *testing.T) {
	for used := 0; used <= 30; used++ {
		_, s := made(t, api.Geo{Half: 30, Log: 60})
		// Objects that overlap are more than a half has room for.
		fill(s, 16, slices.Repeat([]int{16_777_216 + 9}, 21)...)
		for k := range used % 6 {
			s.Set(8+k, 16+k)
		}
		s.Set(api.FreeAt, 46)
		hold(t, "roots", s, start(20, 21, 22))
		hold(t, "roots", s, all(20, 21))
		put(s, space.Control{Space: 1, Free: 46 + used, Gc: 1, Scan: 46})
		for cell := 46; cell < 46+used; cell++ {
			s.Set(cell, 16_777_216)
		}
		fill(s, 46, 16_777_216+2*256, 16, 17)
		what := fmt.Sprintf("%d used", used)
		for _, n := range []int{0, 1, 2, 40} {
			hold(t, what, s, step(n))
		}
		hold(t, what, s, all(46))
		if used == 10 || used == 11 || used == 20 || used == 21 {
			over, free := map[int]answer{10: scanned(false), 11: wrong(api.ErrHeap), 20: wrong(api.ErrHeap), 21: wrong(api.ErrHeap)}, map[int]int{10: 76, 11: 67, 20: 76, 21: 67}
			play(t, what, s, []deed{step(1)}, over[used])
			want(t, what+": Free", space.Get(s).Free, free[used])
		}
	}
}

// TestP1501MadeMeanwhile asks that objects that are made while a collection goes on are scanned, too, and stay.
func TestP1501MadeMeanwhile(t *testing.T) {
	s := few(t)
	play(t, "Start", s, []deed{start(23)}, told(50))
	a, _ := alloc.New(s, 2, 0)
	want(t, "New", a, 52)
	fill(s, a+1, 46, a)
	play(t, "Step", s, []deed{step(2), step(2)}, scanned(false), scanned(true))
	same(t, "the objects", alloc.Objects(s), []int{46, 50, 52, 55})
	same(t, "the new one", s.All()[52:55], []int{16_777_216 + 2*256, 46, 52})
	play(t, "All", s, []deed{all(52)}, told(20))
	same(t, "the objects behind that", alloc.Objects(s), []int{16, 20, 23})
}

// TestP1502On asks for what stands in that cell alone.
func TestP1502On(t *testing.T) {
	s := few(t)
	want(t, "none goes on", gc.On(s), false)
	for _, v := range []int{0, 1, 2, 3, 257, 1<<31 + 1, api.Wrap - 1} {
		for _, c := range []space.Control{{Free: 25}, {Space: 1, Free: 46, Scan: 46}, {Space: 7, Free: 5}} {
			c.Gc = v
			put(s, c)
			want(t, fmt.Sprintf("On of %+v", c), gc.On(s), v == 1)
		}
	}
	want(t, "On of nil", gc.On(nil), false)
	want(t, "On of a zero one", gc.On(&store.Store{}), false)
}

// TestP1502AllThatIsLeft asks that one that goes on is brought to its end, from wherever it is, and that registers are told as they are then.
func TestP1502AllThatIsLeft(t *testing.T) {
	for n := range 4 {
		s := few(t)
		play(t, "Start", s, []deed{start(23), step(n)}, told(50), scanned(n == 3))
		if n < 3 {
			regs := []int{50, 7, -1, 16, api.Wrap, 0}
			play(t, fmt.Sprintf("All behind %d", n), s, []deed{all(regs...)}, told(regs...))
		}
		want(t, "the control", space.Get(s), space.Control{Space: 1, Free: 54})
		same(t, "the heap", s.All()[46:54], []int{16_777_216 + 2*256 + 1, 52, 46, 20, 16_777_216 + 256, 46, 16_777_216 + 256, 0})
	}
}

// TestP1502AnErrorOfAStep asks that no registers stand beside one.
func TestP1502AnErrorOfAStep(t *testing.T) {
	s := few(t)
	fill(s, 22, 3)
	play(t, "All", s, []deed{all(16, 23)}, wrong(api.ErrCorrupt))
	want(t, "the control", space.Get(s), space.Control{Space: 1, Free: 54, Gc: 1, Scan: 52})
	play(t, "All, again", s, []deed{all(16, 23)}, wrong(api.ErrCorrupt))
	fill(s, 53, 0)
	play(t, "All, mended", s, []deed{all(16, 23)}, told(16, 23))
	want(t, "the control behind that", space.Get(s), space.Control{Space: 1, Free: 54})
}

// TestP1502OfTheGreatest asks that a half of as many objects as there may be is done in one go.
func TestP1502OfTheGreatest(t *testing.T) {
	g := api.Geo{Half: 400, Log: 300}
	_, s := made(t, g)
	put(s, going(g, 1, 400))
	for cell := 416; cell < 816; cell++ {
		s.Set(cell, 16_777_216)
	}
	hold(t, "the most objects", s, all(3))
	hold(t, "the most objects", s, step(399))
	hold(t, "the most objects", s, step(400))
	put(s, space.Control{Free: 16})
	var last int
	for k := range 25 {
		last, _ = alloc.New(s, 15, 0)
		for i := range 15 {
			s.Set(last+1+i, max(16, last-16*i)*(k%2))
		}
	}
	want(t, "Left", space.Left(s), 0)
	fill(s, 8, last, 16, 32, 48)
	holdAll(t, "a full half", s, 64, 80)
	act(t, "a full half", s, all(64, 80))
	act(t, "a full half, back", s, all())
}

// kinds are cells of all sorts, for a heap of a geometry.
func kinds(r *rand.Rand, g api.Geo) int {
	return []int{0, r.Intn(18 + 2*g.Half), 16_777_216, 16_777_216 + 256*r.Intn(3) + r.Intn(3), 16_777_216 + 256*r.Intn(17) + r.Intn(32), 33_554_432 + r.Intn(20+2*g.Half)}[r.Intn(6)]
}

// TestP1501P1502OfManyHeaps lays heaps of all kinds, as they are made and as they never are, and does deeds on them, one behind the other.
func TestP1501P1502OfManyHeaps(t *testing.T) {
	r := rand.New(rand.NewSource(15))
	for _, g := range []api.Geo{{Half: 8, Log: 8}, {Half: 30, Log: 60}, {Half: 60, Log: 60}} {
		_, s := made(t, g)
		for round := range 300 {
			for cell := 8; cell < 16+2*g.Half; cell++ {
				s.Set(cell, kinds(r, g))
			}
			for root := 8; root < 16; root++ {
				s.Set(root, r.Intn(16+2*g.Half)*(r.Intn(4)/3))
			}
			c := going(g, r.Intn(2), r.Intn(g.Half+1))
			if r.Intn(2) == 0 {
				c.Gc, c.Scan = 0, 0
			}
			put(s, c)
			for k := range 12 {
				d := []deed{start(), start(0, r.Intn(16+2*g.Half)), step(r.Intn(3)), step(1), step(r.Intn(9) - 1), all(r.Intn(16 + 2*g.Half))}[r.Intn(6)]
				act(t, fmt.Sprintf("%+v, round %d, deed %d", g, round, k), s, d)
			}
		}
	}
}

// TestP1501P1502StoresApart asks that each store's own geometry and cells count.
func TestP1501P1502StoresApart(t *testing.T) {
	_, small := made(t, api.Geo{Half: 8, Log: 8})
	_, great := made(t, api.Geo{Half: 20, Log: 8})
	for _, s := range []*store.Store{small, great} {
		alloc.New(s, 1, 1)
		fill(s, 8, 16)
	}
	play(t, "the smaller one", small, []deed{start(16)}, told(24))
	want(t, "On of the greater one", gc.On(great), false)
	play(t, "the greater one", great, []deed{step(1), start(16), step(1)}, scanned(true), told(36), scanned(true))
	want(t, "On of the smaller one", gc.On(small), true)
	want(t, "the smaller one's control", space.Get(small), space.Control{Space: 1, Free: 27, Gc: 1, Scan: 24})
	want(t, "the greater one's control", space.Get(great), space.Control{Space: 1, Free: 39})
}

// TestP1501P1502NoStore asks that no store counts ahead of all else that goes wrong.
func TestP1501P1502NoStore(t *testing.T) {
	for _, s := range []*store.Store{nil, {}} {
		for _, d := range []deed{start(), start(0), start(16, -1), step(0), step(1), step(-1), step(math.MaxInt), all(), all(0), all(16, -1)} {
			want(t, fmt.Sprintf("%+v", d), do(s, d), wrong(api.ErrArg))
			act(t, "no store", s, d)
		}
	}
}
