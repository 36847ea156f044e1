package audit_test

import (
	"fmt"
	"math/rand"
	"testing"

	"flitting/alloc"
	"flitting/api"
	"flitting/audit"
	"flitting/field"
	"flitting/gc"
	"flitting/sector"
	"flitting/space"
	"flitting/store"
	"flitting/walk"
)

// story is a program that goes on over a store, drawn act by act, and the objects that its registers name.
type story struct {
	t    *testing.T
	r    *rand.Rand
	d    *sector.Disk
	s    *store.Store
	regs []int
}

// make lets a register name a new object; where the half is full it may be that no object is made.
func (y *story) make() {
	if a, e := alloc.New(y.s, y.r.Intn(4), y.r.Intn(3)); e == api.OK {
		y.regs[y.r.Intn(4)] = a
	}
}

// link lets a slot of an object name another one, or none.
func (y *story) link() {
	a := y.regs[y.r.Intn(4)]
	if slots, _, e := field.Shape(y.s, a); e == api.OK && slots > 0 {
		want(y.t, "Put", field.Put(y.s, a, y.r.Intn(slots), y.regs[y.r.Intn(4)]), api.OK)
	}
}

// read lets a register name what a root, or a slot, names; where the half is full it may be that it can't be moved.
func (y *story) read() {
	to, a := y.r.Intn(4), y.regs[y.r.Intn(4)]
	v, e := field.Root(y.s, y.r.Intn(8))
	if slots, _, is := field.Shape(y.s, a); is == api.OK && slots > 0 {
		v, e = field.Load(y.s, a, y.r.Intn(slots))
	}
	if e == api.OK {
		y.regs[to] = v
	}
}

// collect begins a collection, or scans some objects. Where the half gets full it is taken back.
func (y *story) collect() {
	if gc.On(y.s) {
		if _, e := gc.Step(y.s, y.r.Intn(3)); e == api.ErrHeap {
			y.takeBack()
		}
		return
	}
	regs, e := gc.Start(y.s, y.regs...)
	want(y.t, "Start", e, api.OK)
	y.regs = regs
}

// takeBack takes back what was not committed.
func (y *story) takeBack() {
	y.s.Abort()
	y.regs = make([]int, 4)
}

// commit commits; where the log is too small for it all is taken back.
func (y *story) commit() {
	if y.s.Commit() != api.OK {
		y.takeBack()
	}
}

// fall lets the power go at some deed of a commit or a checkpoint, with some of the writes, and opens the disk anew.
func (y *story) fall() {
	y.d.Arm(y.r.Intn(12), y.r.Intn(2), y.r.Intn(2), y.r.Intn(2), 1)
	if y.r.Intn(2) == 0 {
		y.s.Commit()
	}
	y.s.Mark()
	hold(y.t, "behind a fall", y.s)
	y.d.Crash(y.r.Intn(2), y.r.Intn(2), y.r.Intn(2))
	y.d.Power()
	y.s = opened(y.t, y.d)
	y.regs = make([]int, 4)
}

// act does one of them.
func (y *story) act() string {
	switch k := y.r.Intn(40); {
	case k < 10:
		y.make()
		return "make"
	case k < 18:
		y.link()
		return "link"
	case k < 22:
		field.SetRoot(y.s, y.r.Intn(8), y.regs[y.r.Intn(4)])
		return "root"
	case k < 26:
		y.read()
		return "read"
	case k < 34:
		y.collect()
		return "collect"
	case k < 37:
		y.commit()
		return "commit"
	case k < 38:
		y.s.Mark()
		return "mark"
	case k < 39:
		y.takeBack()
		return "take back"
	}
	y.fall()
	return "fall"
}

// TestP1801P1802Stories asks that whatever programs and collections do, and wherever the power falls, the heap is sound; and that behind a whole collection, with no register, nothing is not reached.
func TestP1801P1802Stories(t *testing.T) {
	for round := range 150 {
		g := api.Geo{Half: []int{8, 15, 30, 100}[round%4], Log: []int{300, 300, 40}[round%3]}
		d, s := made(t, g)
		y := &story{t: t, r: rand.New(rand.NewSource(int64(round))), d: d, s: s, regs: make([]int, 4)}
		for k := range 150 {
			what := fmt.Sprintf("%+v, round %d, %d, %s", g, round, k, y.act())
			want(t, what, hold(t, what, y.s).errno, api.OK)
			if !gc.On(y.s) {
				want(t, what+": Used", walk.Live(y.s)+audit.Garbage(y.s), space.Used(y.s))
			}
			if t.Failed() {
				return
			}
		}
		gc.All(y.s)
		y.regs = make([]int, 4)
		if _, e := gc.All(y.s); e == api.OK {
			want(t, "collected", hold(t, "collected", y.s), answer{})
			want(t, "Used", space.Used(y.s), walk.Live(y.s))
		}
	}
}

// TestP1801WhereverThePowerFalls lets it fall at each deed of a commit of what was moved, and asks that what is there then is sound.
func TestP1801WhereverThePowerFalls(t *testing.T) {
	for n := range 40 {
		for keep := range 8 {
			d, s := made(t, api.Geo{Half: 30, Log: 30})
			alloc.New(s, 2, 0)
			alloc.New(s, 1, 2)
			field.Put(s, 16, 0, 19)
			field.SetRoot(s, 3, 16)
			want(t, "Commit", s.Commit(), api.OK)
			gc.Start(s)
			alloc.New(s, 1, 0)
			field.Put(s, 46, 1, 49)
			d.Arm(n, keep&1, keep>>1&1, 1, keep>>2, 1, 1)
			if s.Commit() == api.OK {
				s.Mark()
			}
			what := fmt.Sprintf("behind %d deeds, %03b kept", n, keep)
			hold(t, what, s)
			d.Crash()
			d.Power()
			s = opened(t, d)
			want(t, what, hold(t, what, s).errno, api.OK)
			want(t, what+": Live", walk.Live(s) == 7 || walk.Live(s) == 9, true)
			gc.All(s)
			gc.All(s)
			want(t, what+", collected", hold(t, what, s), answer{})
		}
	}
}

// kinds are cells of all sorts, for a heap of a geometry.
func kinds(r *rand.Rand, g api.Geo) int {
	return []int{0, r.Intn(18 + 2*g.Half), 16_777_216, 16_777_216 + 256*r.Intn(3) + r.Intn(3), 16_777_216 + 256*r.Intn(17) + r.Intn(32), 33_554_432 + r.Intn(20+2*g.Half)}[r.Intn(6)]
}

// lay lays objects in both halves, one behind the other, and lets slots and roots name what they may; some of those of the half that is being left have moved.
func lay(r *rand.Rand, s *store.Store, c space.Control) {
	g := s.Geo()
	used, others := []int{0}, []int{0}
	base, left := 16+g.Half*c.Space, 16+g.Half*(1-c.Space)
	place := func(at, end int) (l []int) {
		for at < end {
			f := form{r.Intn(4), r.Intn(3)}
			if at+f.size() > end {
				f = form{0, 0}
			}
			s.Set(at, f.header())
			l = append(l, at)
			at += f.size()
		}
		return l
	}
	used = append(used, place(base, c.Free)...)
	if c.Gc == 1 {
		others = append(others, place(left, left+g.Half)...)
		c.Scan = append(used, c.Free)[1+r.Intn(len(used))]
	}
	put(s, c)
	for _, at := range used[1:] {
		for k := 1; k < forms[s.Get(at)].size(); k++ {
			s.Set(at+k, used[r.Intn(len(used))])
			if at >= c.Scan && r.Intn(2) == 0 {
				s.Set(at+k, others[r.Intn(len(others))])
			}
		}
	}
	for _, at := range others[1:] {
		for k := 1; k < forms[s.Get(at)].size(); k++ {
			s.Set(at+k, append(used, others...)[r.Intn(len(used)+len(others))])
		}
		if to := used[r.Intn(len(used))]; to != 0 && r.Intn(2) == 0 {
			s.Set(at, 33_554_432+to)
		}
	}
	for root := range 8 {
		s.Set(8+root, used[r.Intn(len(used))]*r.Intn(2))
	}
}

// TestP1801P1802OfManyHeaps lays heaps that are sound, such as are other in a few cells, and such as never are.
func TestP1801P1802OfManyHeaps(t *testing.T) {
	r := rand.New(rand.NewSource(18))
	sound, garbage := 0, 0
	for _, g := range []api.Geo{{Half: 8, Log: 8}, {Half: 30, Log: 60}, {Half: 60, Log: 60}} {
		_, s := made(t, g)
		for round := range 3000 {
			for cell := 16; cell < 16+2*g.Half; cell++ {
				s.Set(cell, kinds(r, g))
			}
			c := going(g, r.Intn(2), r.Intn(g.Half+1), 0)
			if r.Intn(3) == 0 {
				c.Gc, c.Scan = 0, 0
			}
			lay(r, s, c)
			what := fmt.Sprintf("%+v, round %d", g, round)
			want(t, what+", sound", hold(t, what, s).errno, api.OK)
			for range []int{0, 1, 3, g.Half}[round%4] {
				s.Set([]int{r.Intn(4), 8 + r.Intn(8), 16 + r.Intn(2*g.Half), 16 + r.Intn(2*g.Half), 16 + r.Intn(2*g.Half)}[r.Intn(5)], kinds(r, g))
			}
			told := hold(t, what+", spoilt", s)
			if told.errno == api.OK {
				sound++
			}
			if told.garbage > 0 {
				garbage++
			}
			if t.Failed() {
				return
			}
		}
	}
	for _, n := range []int{sound, garbage} {
		want(t, fmt.Sprintf("%d of 9000 are sound, %d have something that is not reached", sound, garbage), n > 2000 && n < 7000, true)
	}
}

// TestP1801EachCellSpoilt puts values of all sorts into each cell of some sound heaps.
func TestP1801EachCellSpoilt(t *testing.T) {
	for no := range 2 {
		collected, base, left := half(t, no)
		for _, s := range []*store.Store{few(t), collected} {
			was := s.All()
			for cell := range len(was) {
				for _, v := range []int{0, 1, 2, 16, 19, 20, 21, 25, 27, base, base + 3, base + 7, base + 9, left, left + 4, left + 9, left + 27, was[cell] + 1, was[cell] + 256, 16_777_216, 16_777_218, 16_777_472, 33_554_432 + base, 33_554_432 + left, api.Wrap - 1} {
					s.Set(cell, v)
					hold(t, fmt.Sprintf("half %d, the cell %d is %d", no, cell, v), s)
					back(s, was)
				}
			}
		}
	}
}
