package follow_test

import (
	"fmt"
	"math"
	"math/rand"
	"slices"
	"testing"

	"flitting/alloc"
	"flitting/api"
	"flitting/follow"
	"flitting/sector"
	"flitting/space"
	"flitting/store"
)

func want[T comparable](t *testing.T, what string, got, wanted T) {
	t.Helper()
	if got != wanted {
		t.Errorf("%s: %#v, not %#v", what, got, wanted)
	}
}

// same holds lists against each other; one that is nil and one that is empty are the same.
func same(t *testing.T, what string, got, wanted []int) {
	t.Helper()
	if !slices.Equal(got, wanted) {
		t.Errorf("%s: %v, not %v", what, got, wanted)
	}
}

// made is a disk and a store that was formatted.
func made(t *testing.T, g api.Geo) (*sector.Disk, *store.Store) {
	t.Helper()
	d := sector.New(1000)
	want(t, "Format", store.Format(d, g), api.OK)
	return d, opened(t, d)
}

func opened(t *testing.T, d *sector.Disk) *store.Store {
	t.Helper()
	s, e := store.Open(d)
	want(t, "Open", e, api.OK)
	return s
}

// put gives the cells of the control values as they are, whether they may be or not.
func put(s *store.Store, c space.Control) { fill(s, 0, c.Space, c.Free, c.Gc, c.Scan) }

// fill gives the cells from at on values.
func fill(s *store.Store, at int, values ...int) {
	for i, v := range values {
		s.Set(at+i, v)
	}
}

// dirt gives all cells behind the control values of their own, that are neither headers nor forwards.
func dirt(s *store.Store) {
	for cell, cells := 16, len(s.All()); cell < cells; cell++ {
		s.Set(cell, 7_000_000+cell)
	}
}

// going is the control of a collection that goes on into a half.
func going(g api.Geo, no, used int) space.Control {
	base := 16 + no*g.Half
	return space.Control{Space: no, Free: base + used, Gc: 1, Scan: base}
}

// found is what Follow tells; what stands beside an error must be zero.
type found struct {
	a     int
	errno api.Errno
}

func followed(s *store.Store, a int) found {
	now, errno := follow.Follow(s, a)
	return found{now, errno}
}

// seen is what Look tells; what stands beside a false must be zero.
type seen struct {
	a  int
	is bool
}

func looked(s *store.Store, a int) seen {
	now, is := follow.Look(s, a)
	return seen{now, is}
}

// isRight tells whether the control of some cells may be, by the document's words.
func isRight(cells []int) bool {
	half := (len(cells) - 16) / 2
	no, free, gc, scan := cells[0], cells[1], cells[2], cells[3]
	if no != 0 && no != 1 {
		return false
	}
	base := 16 + no*half
	return base <= free && free <= base+half && (gc == 0 && scan == 0 || gc == 1 && base <= scan && scan <= free)
}

// sizes are those of all objects, by the document's words, by what stands at their first cell.
var sizes = laidSizes()

func laidSizes() map[int]int {
	m := map[int]int{}
	for slots := 0; slots <= 15; slots++ {
		for words := 0; words <= 30; words++ {
			m[16_777_216+256*slots+words] = 1 + slots + words
		}
	}
	return m
}

// asked is what Follow and Look must tell, by the document's words; the cells are turned to what they must be behind Follow.
func asked(cells []int, a int) (found, seen) {
	if !isRight(cells) {
		return found{0, api.ErrArg}, seen{}
	}
	half := (len(cells) - 16) / 2
	used := 16 + cells[0]*half
	left := 16 + half - cells[0]*half
	if a == 0 || used <= a && a < used+half {
		return found{a, api.OK}, seen{a, true}
	}
	none := found{0, api.ErrCorrupt}
	if cells[2] == 0 || a < left || a >= left+half {
		return none, seen{}
	}
	to := cells[a] - 33_554_432
	if used <= to && to < used+half {
		return found{to, api.OK}, seen{to, true}
	}
	size, is := sizes[cells[a]]
	if !is || a+size > left+half {
		return none, seen{}
	}
	free := cells[1]
	if used+half-free < size {
		return found{0, api.ErrHeap}, seen{a, true}
	}
	for i := 0; i < size; i++ {
		cells[free+i] = cells[a+i]
	}
	cells[a], cells[1] = 33_554_432+free, free+size
	return found{free, api.OK}, seen{a, true}
}

// hold asks where one is, and holds both answers and each cell against the document's words; what Follow turned is turned back then.
func hold(t *testing.T, what string, s *store.Store, a int) {
	t.Helper()
	was := s.All()
	wanted := slices.Clone(was)
	there, lies := asked(wanted, a)
	want(t, fmt.Sprintf("%s: Look(%d)", what, a), looked(s, a), lies)
	same(t, fmt.Sprintf("%s: the cells behind Look(%d)", what, a), s.All(), was)
	want(t, fmt.Sprintf("%s: Follow(%d)", what, a), followed(s, a), there)
	now := s.All()
	same(t, fmt.Sprintf("%s: the cells behind Follow(%d)", what, a), now, wanted)
	for cell, v := range now {
		if v != was[cell] {
			s.Set(cell, was[cell])
		}
	}
}

// numbers are those that are no cell at all, or far from one.
var numbers = []int{math.MinInt, math.MinInt + 1, math.MaxInt, math.MaxInt - 1, api.Wrap, api.Wrap - 1, api.Wrap + 16, api.Wrap + 20, -api.Wrap, -16, 1 << 31, -1 << 31, 1 << 16, 33_554_432 + 16, 16_777_216}

// holdAll holds each cell, and numbers that are none.
func holdAll(t *testing.T, what string, s *store.Store) {
	t.Helper()
	for _, a := range numbers {
		hold(t, what, s, a)
	}
	for a := -20; a < len(s.All())+20; a++ {
		hold(t, what, s, a)
	}
}

func TestP1301Examples(t *testing.T) {
	_, s := made(t, api.Geo{Half: 30, Log: 60})
	put(s, space.Control{Space: 1, Free: 46, Gc: 1, Scan: 46})
	fill(s, 16, 16_777_216+256+2, 20, 7, 8, 16_777_216)
	want(t, "Look", looked(s, 16), seen{16, true})
	want(t, "Follow", followed(s, 16), found{46, api.OK})
	want(t, "Follow, twice", followed(s, 16), found{46, api.OK})
	want(t, "Look behind that", looked(s, 16), seen{46, true})
	want(t, "Follow of where it is", followed(s, 46), found{46, api.OK})
	want(t, "Follow of another one", followed(s, 20), found{50, api.OK})
	same(t, "what moved away", s.All()[16:22], []int{33_554_432 + 46, 20, 7, 8, 33_554_432 + 50, 0})
	same(t, "what moved there", s.All()[46:52], []int{16_777_216 + 256 + 2, 20, 7, 8, 16_777_216, 0})
	want(t, "the control", space.Get(s), space.Control{Space: 1, Free: 51, Gc: 1, Scan: 46})
}

// TestP1301OfEveryCell asks for each cell of heaps in which all cells are headers, forwards, or neither.
func TestP1301OfEveryCell(t *testing.T) {
	for _, g := range []api.Geo{{Half: 8, Log: 4}, {Half: 30, Log: 60}} {
		_, s := made(t, g)
		for no := range 2 {
			base := 16 + no*g.Half
			for _, v := range []int{0, 1, 16, base, 16_777_215, 16_777_216, 16_777_217, 16_777_216 + 256 + 3, 16_777_216 + 31, 16_777_216 + 256*16, 33_554_432, 33_554_432 + base, 33_554_432 + base + g.Half, 33_554_432 + 16, 2*33_554_432 + base, api.Wrap - 1} {
				for cell := 16; cell < 16+2*g.Half; cell++ {
					s.Set(cell, v)
				}
				put(s, space.Control{Space: no, Free: base + 2})
				holdAll(t, fmt.Sprintf("%+v, half %d, all cells %d, no collection", g, no, v), s)
				put(s, going(g, no, 2))
				holdAll(t, fmt.Sprintf("%+v, half %d, all cells %d", g, no, v), s)
			}
		}
	}
}

// TestP1301OfEveryControl asks with each control about those that may be: with one that may not be even no object is not found.
func TestP1301OfEveryControl(t *testing.T) {
	g := api.Geo{Half: 8, Log: 8}
	_, s := made(t, g)
	for cell := 16; cell < 32; cell += 2 {
		fill(s, cell, 16_777_217, 5)
	}
	fill(s, 18, 33_554_432+26)
	fill(s, 26, 33_554_432+18)
	for no := 0; no <= 2; no++ {
		for free := 14; free <= 34; free++ {
			for gc := 0; gc <= 2; gc++ {
				for _, scan := range []int{0, 1, 15, 16, 18, 20, 23, 24, 25, 28, 32, 33, api.Wrap - 1} {
					c := space.Control{Space: no, Free: free, Gc: gc, Scan: scan}
					put(s, c)
					for _, a := range []int{-1, 0, 1, 15, 16, 17, 18, 22, 23, 24, 25, 26, 30, 31, 32} {
						hold(t, fmt.Sprintf("%+v", c), s, a)
					}
				}
			}
		}
	}
	for cell := range 4 {
		put(s, space.Control{Free: 20})
		s.Set(cell, api.Wrap-1)
		holdAll(t, fmt.Sprintf("cell %d the greatest", cell), s)
	}
}

// TestP1301OfNoObject asks that 0 is found where the control may be, and there alone.
func TestP1301OfNoObject(t *testing.T) {
	_, s := made(t, api.Geo{Half: 8, Log: 8})
	want(t, "Follow(0)", followed(s, 0), found{0, api.OK})
	want(t, "Look(0)", looked(s, 0), seen{0, true})
	put(s, space.Control{Free: 25})
	want(t, "Follow(0), the control may not be", followed(s, 0), found{0, api.ErrArg})
	want(t, "Look(0), the control may not be", looked(s, 0), seen{})
	put(s, space.Control{Space: 1, Free: 32, Gc: 1, Scan: 24})
	want(t, "Follow(0), a full half", followed(s, 0), found{0, api.OK})
}

// TestP1301InTheHalfInUse asks that each cell of it is found where it is, whatever stands there, ahead of Free and behind it.
func TestP1301InTheHalfInUse(t *testing.T) {
	g := api.Geo{Half: 9, Log: 8}
	_, s := made(t, g)
	for no := range 2 {
		base := 16 + no*9
		for _, v := range []int{0, 5, 16_777_216, 16_777_216 + 30, 33_554_432 + base, 33_554_432 + 41 - base, api.Wrap - 1} {
			for _, c := range []space.Control{{Space: no, Free: base}, {Space: no, Free: base + 9}, going(g, no, 0), going(g, no, 9)} {
				put(s, c)
				for a := base; a < base+9; a++ {
					s.Set(a, v)
					want(t, fmt.Sprintf("%+v, %d there: Follow(%d)", c, v, a), followed(s, a), found{a, api.OK})
					hold(t, fmt.Sprintf("%+v, %d there", c, v), s, a)
				}
			}
		}
	}
}

// TestP1301InTheControl asks that a cell of the control is none of an object, whatever stands there.
func TestP1301InTheControl(t *testing.T) {
	g := api.Geo{Half: 9, Log: 8}
	_, s := made(t, g)
	for no := range 2 {
		for _, v := range []int{16_777_216, 16_777_217, 33_554_432 + 16 + no*9} {
			for _, c := range []space.Control{{Space: no, Free: 16 + no*9}, going(g, no, 0), going(g, no, 9)} {
				put(s, c)
				for a := 4; a < 16; a++ {
					s.Set(a, v)
					want(t, fmt.Sprintf("%+v, %d there: Follow(%d)", c, v, a), followed(s, a), found{0, api.ErrCorrupt})
					hold(t, fmt.Sprintf("%+v, %d there", c, v), s, a)
				}
			}
		}
	}
}

// TestP1301WhereItMovedTo asks for forwards to each cell, and to numbers about what a forward says: only a cell of the half in use is one to which it moved.
func TestP1301WhereItMovedTo(t *testing.T) {
	g := api.Geo{Half: 10, Log: 8}
	_, s := made(t, g)
	for no := range 2 {
		base, left := 16+no*10, 26-no*10
		for _, used := range []int{0, 4, 10} {
			put(s, going(g, no, used))
			for v := 33_554_432 - 2; v < 33_554_432+50; v++ {
				for _, a := range []int{left, left + 3, left + 9} {
					s.Set(a, v)
					hold(t, fmt.Sprintf("half %d, %d used, %d there", no, used, v), s, a)
					if to := v - 33_554_432; to == base || to == base+9 {
						want(t, fmt.Sprintf("Follow of what moved to %d", to), followed(s, a), found{to, api.OK})
					}
				}
			}
			for _, v := range []int{33_554_432 + 100_000, 33_554_432 + 100_001, 50_331_648 + base, 67_108_864 + base, 16_777_216 - 1, base, api.Wrap - 1} {
				s.Set(left, v)
				hold(t, fmt.Sprintf("half %d, %d there", no, v), s, left)
				want(t, fmt.Sprintf("Follow, %d there", v), followed(s, left), found{0, api.ErrCorrupt})
			}
		}
	}
}

// TestP1301OfEveryShape moves an object of each shape, with all its cells, out of a half that it fills to its end, and one cell less far, and one farther.
func TestP1301OfEveryShape(t *testing.T) {
	g := api.Geo{Half: 50, Log: 60}
	_, s := made(t, g)
	for no := range 2 {
		end := 16 + 50*(2-no)
		for header, size := range sizes {
			for passes := -1; passes <= 1; passes++ {
				dirt(s)
				put(s, going(g, no, 0))
				a := end - size + passes
				if passes == 1 && size == 1 {
					continue // its header would lie behind the half
				}
				s.Set(a, header)
				what := fmt.Sprintf("half %d, header %d, %d farther than its end", no, header, passes)
				hold(t, what, s, a)
				if passes < 1 {
					cells := s.All()[a : a+size]
					want(t, what+": Follow", followed(s, a), found{16 + 50*no, api.OK})
					same(t, what+": what moved", s.All()[16+50*no:16+50*no+size], cells)
				}
			}
		}
	}
}

// TestP1301UpToTheEnd moves objects of all sizes with each number of cells left: the half is filled up, and not a cell more.
func TestP1301UpToTheEnd(t *testing.T) {
	for _, g := range []api.Geo{{Half: 8, Log: 4}, {Half: 20, Log: 60}} {
		_, s := made(t, g)
		for no := range 2 {
			for used := 0; used <= g.Half; used++ {
				for size := 1; size <= g.Half; size++ {
					put(s, going(g, no, used))
					a := 16 + (1-no)*g.Half
					s.Set(a, 16_777_216+size-1)
					what := fmt.Sprintf("%+v, half %d, %d used, size %d", g, no, used, size)
					hold(t, what, s, a)
					if used+size > g.Half {
						want(t, what, followed(s, a), found{0, api.ErrHeap})
						want(t, what, looked(s, a), seen{a, true})
					}
				}
			}
		}
	}
}

// TestP1301CorruptAheadOfFull asks that what is no object counts ahead of what has no room, and that where nothing is to be moved a full half is none's fault.
func TestP1301CorruptAheadOfFull(t *testing.T) {
	g := api.Geo{Half: 8, Log: 4}
	_, s := made(t, g)
	put(s, going(g, 1, 8))
	fill(s, 16, 16_777_216, 16_777_216+8, 33_554_432+23, 33_554_432+24, 33_554_432+31, 5)
	for a, wanted := range map[int]found{16: {0, api.ErrHeap}, 17: {0, api.ErrCorrupt}, 18: {0, api.ErrCorrupt}, 19: {24, api.OK}, 20: {31, api.OK}, 21: {0, api.ErrCorrupt}, 24: {24, api.OK}, 31: {31, api.OK}, 32: {0, api.ErrCorrupt}, 15: {0, api.ErrCorrupt}, -1: {0, api.ErrCorrupt}} {
		want(t, fmt.Sprintf("Follow(%d), full", a), followed(s, a), wanted)
	}
	put(s, going(g, 1, 9))
	want(t, "Follow(16), the control may not be", followed(s, 16), found{0, api.ErrArg})
	want(t, "Follow(32), the control may not be", followed(s, 32), found{0, api.ErrArg})
}

// TestP1301NoCollection asks that the other half has nothing where no collection goes on.
func TestP1301NoCollection(t *testing.T) {
	g := api.Geo{Half: 8, Log: 4}
	_, s := made(t, g)
	for no := range 2 {
		base, left := 16+no*8, 24-no*8
		put(s, space.Control{Space: no, Free: base})
		fill(s, left, 16_777_216, 33_554_432+base, 0)
		for a := left; a < left+8; a++ {
			want(t, fmt.Sprintf("Follow(%d)", a), followed(s, a), found{0, api.ErrCorrupt})
			want(t, fmt.Sprintf("Look(%d)", a), looked(s, a), seen{})
		}
		put(s, going(g, no, 0))
		want(t, "Follow of a header while one goes on", followed(s, left), found{base, api.OK})
		want(t, "Follow of a forward while one goes on", followed(s, left+1), found{base, api.OK})
	}
}

// TestP1301OneByOne moves all objects of a heap, one behind the other, from whichever side they are asked for: each once, as it was, and slots name what they named.
func TestP1301OneByOne(t *testing.T) {
	for _, order := range [][]int{{16, 22, 24, 29}, {29, 24, 22, 16}, {22, 29, 16, 22, 24, 29, 16}} {
		_, s := made(t, api.Geo{Half: 20, Log: 60})
		for _, shape := range [][2]int{{2, 3}, {0, 1}, {4, 0}, {0, 0}} {
			alloc.New(s, shape[0], shape[1])
		}
		fill(s, 17, 22, 16, 7, 8, 9)
		fill(s, 23, 16_777_216)
		fill(s, 25, 29, 0, 24, 16)
		put(s, space.Control{Space: 1, Free: 36, Gc: 1, Scan: 36})
		was, free, moved := s.All(), 36, map[int]int{}
		for _, a := range order {
			if moved[a] == 0 {
				moved[a] = free
				free += sizes[was[a]]
			}
			want(t, fmt.Sprintf("%v: Follow(%d)", order, a), followed(s, a), found{moved[a], api.OK})
			want(t, fmt.Sprintf("%v: the control", order), space.Get(s), space.Control{Space: 1, Free: free, Gc: 1, Scan: 36})
		}
		for a, to := range moved {
			size := sizes[was[a]]
			same(t, fmt.Sprintf("%v: what moved from %d", order, a), s.All()[to:to+size], was[a:a+size])
			same(t, fmt.Sprintf("%v: what is left of %d", order, a), s.All()[a+1:a+size], was[a+1:a+size])
			want(t, fmt.Sprintf("%v: what stands at %d", order, a), s.Get(a), 33_554_432+to)
			want(t, fmt.Sprintf("%v: Look(%d)", order, a), looked(s, a), seen{to, true})
		}
		want(t, fmt.Sprintf("%v: how many objects", order), len(alloc.Objects(s)), 4)
	}
}

// TestP1301BesideNewObjects asks that what moves and what is made lie one behind the other.
func TestP1301BesideNewObjects(t *testing.T) {
	_, s := made(t, api.Geo{Half: 20, Log: 60})
	alloc.New(s, 1, 1)
	alloc.New(s, 0, 2)
	put(s, space.Control{Space: 1, Free: 36, Gc: 1, Scan: 36})
	alloc.New(s, 0, 0)
	want(t, "Follow behind a new one", followed(s, 19), found{37, api.OK})
	a, _ := alloc.New(s, 2, 0)
	want(t, "New behind one that moved", a, 40)
	want(t, "Follow behind that", followed(s, 16), found{43, api.OK})
	same(t, "Objects", alloc.Objects(s), []int{36, 37, 40, 43})
}

// TestP1301MovesAreWorking asks that a move is cells as all others: Abort takes it back, it lasts with a Commit, and a crash without one leaves what was.
func TestP1301MovesAreWorking(t *testing.T) {
	d, s := made(t, api.Geo{Half: 30, Log: 60})
	put(s, space.Control{Space: 1, Free: 46, Gc: 1, Scan: 46})
	fill(s, 16, 16_777_216+2, 7, 8, 16_777_216+1, 9)
	want(t, "Commit", s.Commit(), api.OK)
	was, room := s.All(), s.Room()
	want(t, "Follow", followed(s, 16), found{46, api.OK})
	if l, wanted := s.Changed(), []api.Change{{Cell: 1, Value: 49}, {Cell: 16, Value: 33_554_478}, {Cell: 46, Value: 16_777_218}, {Cell: 47, Value: 7}, {Cell: 48, Value: 8}}; !slices.Equal(l, wanted) {
		t.Errorf("Changed: %v, not %v", l, wanted)
	}
	want(t, "Room of the log", s.Room(), room)
	s.Abort()
	same(t, "the cells behind Abort", s.All(), was)
	want(t, "Look behind Abort", looked(s, 16), seen{16, true})
	want(t, "Follow of the other one", followed(s, 19), found{46, api.OK})
	want(t, "Commit", s.Commit(), api.OK)
	want(t, "Follow", followed(s, 16), found{48, api.OK})
	d.Crash()
	d.Power()
	s = opened(t, d)
	want(t, "Look of what was committed", looked(s, 19), seen{46, true})
	want(t, "Look of what was not", looked(s, 16), seen{16, true})
	want(t, "Follow behind a crash", followed(s, 16), found{48, api.OK})
	holdAll(t, "behind a crash", s)
}

// TestP1301IsNotHeldBackByTheLog asks that only the half counts: whether the log has room is told by Commit.
func TestP1301IsNotHeldBackByTheLog(t *testing.T) {
	g := api.Geo{Half: 50, Log: 4}
	_, s := made(t, g)
	dirt(s)
	put(s, going(g, 1, 0))
	s.Set(16, 16_777_216+15*256+30)
	hold(t, "a small log", s, 16)
	want(t, "Follow", followed(s, 16), found{66, api.OK})
	want(t, "Commit", s.Commit(), api.ErrLog)
}

// TestP1301WithoutPower asks that objects are found, and moved, as cells are, of a store whose power went.
func TestP1301WithoutPower(t *testing.T) {
	g := api.Geo{Half: 20, Log: 60}
	d, s := made(t, g)
	put(s, going(g, 1, 0))
	fill(s, 16, 16_777_216+1, 5, 16_777_216)
	want(t, "Commit", s.Commit(), api.OK)
	want(t, "Follow", followed(s, 16), found{36, api.OK})
	d.Arm(0)
	want(t, "Commit without power", s.Commit(), api.ErrOff)
	want(t, "Look behind it", looked(s, 16), seen{16, true})
	holdAll(t, "without power", s)
	want(t, "Follow behind it", followed(s, 18), found{36, api.OK})
	want(t, "Look behind that", looked(s, 18), seen{36, true})
}

// kinds are cells of all sorts, for a heap of a geometry.
func kinds(r *rand.Rand, g api.Geo) int {
	return []int{r.Intn(16 + 2*g.Half), 16_777_216, 16_777_216 + 256*r.Intn(3) + r.Intn(3), 16_777_216 + 256*r.Intn(17) + r.Intn(32), 33_554_432 + r.Intn(20+2*g.Half)}[r.Intn(5)]
}

// TestP1301OfManyHeaps lays heaps of all kinds, as they are made and as they never are, asks for each cell of them, and then moves one behind the other.
func TestP1301OfManyHeaps(t *testing.T) {
	r := rand.New(rand.NewSource(13))
	for _, g := range []api.Geo{{Half: 8, Log: 8}, {Half: 30, Log: 60}, {Half: 60, Log: 60}} {
		_, s := made(t, g)
		for round := range 25 {
			for cell := 16; cell < 16+2*g.Half; cell++ {
				s.Set(cell, kinds(r, g))
			}
			put(s, going(g, r.Intn(2), r.Intn(g.Half+1)))
			what := fmt.Sprintf("%+v, round %d", g, round)
			holdAll(t, what, s)
			for range 2 * g.Half {
				a := r.Intn(18 + 2*g.Half)
				cells := s.All()
				there, lies := asked(cells, a)
				want(t, fmt.Sprintf("%s: Look(%d) in a row", what, a), looked(s, a), lies)
				want(t, fmt.Sprintf("%s: Follow(%d) in a row", what, a), followed(s, a), there)
				same(t, fmt.Sprintf("%s: the cells behind Follow(%d) in a row", what, a), s.All(), cells)
			}
		}
	}
}

// TestP1301OfTheGreatest asks in a heap of the greatest halves that may be.
func TestP1301OfTheGreatest(t *testing.T) {
	g := api.Geo{Half: 400, Log: 300}
	_, s := made(t, g)
	for no := range 2 {
		base, left := 16+no*400, 416-no*400
		dirt(s)
		put(s, going(g, no, 354))
		for _, a := range []int{left, left + 354} {
			s.Set(a, 16_777_216+15*256+30)
			hold(t, "the greatest", s, a)
		}
		s.Set(left+355, 16_777_216+15*256+30)
		hold(t, "the greatest", s, left+355)
		want(t, "Follow of the first one", followed(s, left), found{base + 354, api.OK})
		want(t, "Left", space.Left(s), 0)
		want(t, "Follow of the last one", followed(s, left+354), found{0, api.ErrHeap})
	}
}

// TestP1302LookMovesNothing asks as often as one likes: nothing moves, and what is not moved yet is told where it lies, also where it has no room.
func TestP1302LookMovesNothing(t *testing.T) {
	g := api.Geo{Half: 30, Log: 60}
	_, s := made(t, g)
	fill(s, 16, 16_777_216+256+2, 20, 7, 8, 16_777_216, 33_554_432+50, 5, 16_777_216+23, 16_777_216+22)
	for _, used := range []int{0, 1, 29, 30} {
		put(s, going(g, 1, used))
		was := s.All()
		for range 3 {
			for a, wanted := range map[int]seen{0: {0, true}, 16: {16, true}, 20: {20, true}, 21: {50, true}, 22: {}, 23: {}, 24: {}, 46: {46, true}, 75: {75, true}, 76: {}, 15: {}, 45: {}, -1: {}, 1: {}} {
				want(t, fmt.Sprintf("%d used: Look(%d)", used, a), looked(s, a), wanted)
			}
		}
		same(t, "the cells", s.All(), was)
	}
	want(t, "Look of a full half", looked(s, 16), seen{16, true})
	want(t, "Follow of a full half", followed(s, 16), found{0, api.ErrHeap})
}

// TestP1302AsFollowTells asks that Look tells where Follow would tell the same, or that it was not moved yet, and is false where Follow tells that it may not be.
func TestP1302AsFollowTells(t *testing.T) {
	r := rand.New(rand.NewSource(1302))
	g := api.Geo{Half: 12, Log: 30}
	_, s := made(t, g)
	for round := range 300 {
		for cell := 16; cell < 40; cell++ {
			s.Set(cell, kinds(r, g))
		}
		c := going(g, r.Intn(2), r.Intn(13))
		c.Gc, c.Free = c.Gc-r.Intn(8)/7, c.Free+r.Intn(9)/8*13
		put(s, c)
		a := r.Intn(42)
		l, was := looked(s, a), s.All()
		f := followed(s, a)
		what := fmt.Sprintf("round %d, Look(%d)", round, a)
		want(t, what, l.is, f.errno != api.ErrArg && f.errno != api.ErrCorrupt)
		switch {
		case !l.is:
			want(t, what, l, seen{})
		case f.errno == api.ErrHeap || !slices.Equal(was, s.All()):
			want(t, what+", not moved yet", l.a, a)
		default:
			want(t, what+", moved, or where it belongs", l.a, f.a)
		}
		if l.is {
			now := looked(s, a)
			want(t, what+" behind Follow", now.a == f.a || f.errno == api.ErrHeap, true)
		}
	}
}

// TestP1301StoresApart asks that each store's own geometry and cells count.
func TestP1301StoresApart(t *testing.T) {
	small, great := api.Geo{Half: 8, Log: 8}, api.Geo{Half: 20, Log: 8}
	_, s := made(t, small)
	_, x := made(t, great)
	put(s, going(small, 1, 0))
	put(x, going(great, 1, 0))
	fill(s, 18, 16_777_216+6)
	fill(x, 18, 16_777_216+6)
	want(t, "Follow of the smaller one", followed(s, 18), found{0, api.ErrCorrupt})
	want(t, "Follow of the greater one", followed(x, 18), found{36, api.OK})
	want(t, "Look of the smaller one", looked(s, 36), seen{})
	want(t, "Look of the greater one", looked(x, 18), seen{36, true})
}

func TestP1301NoStore(t *testing.T) {
	for _, s := range []*store.Store{nil, {}} {
		for _, a := range append([]int{-1, 0, 1, 15, 16, 24, 32}, numbers...) {
			want(t, fmt.Sprintf("Follow(%d)", a), followed(s, a), found{0, api.ErrArg})
			want(t, fmt.Sprintf("Look(%d)", a), looked(s, a), seen{})
		}
	}
}
