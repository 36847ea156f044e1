package alloc_test

import (
	"fmt"
	"math"
	"math/rand"
	"slices"
	"testing"

	"flitting/alloc"
	"flitting/api"
	"flitting/sector"
	"flitting/space"
	"flitting/store"
)

func want[T comparable](t *testing.T, what string, got, wanted T) {
	t.Helper()
	if got != wanted {
		t.Errorf("%s: %#v, not %#v", what, got, wanted)
	}
}

// same holds lists against each other; one that is nil and one that is empty are the same.
func same(t *testing.T, what string, got, wanted []int) {
	t.Helper()
	if !slices.Equal(got, wanted) {
		t.Errorf("%s: %v, not %v", what, got, wanted)
	}
}

// geometries are some that may be: the smallest and the greatest ones, and some between.
var geometries = []api.Geo{{Half: 8, Log: 4}, {Half: 9, Log: 300}, {Half: 46, Log: 60}, {Half: 47, Log: 60}, {Half: 400, Log: 300}}

// made is a disk and a store that was formatted.
func made(t *testing.T, g api.Geo) (*sector.Disk, *store.Store) {
	t.Helper()
	d := sector.New(1000)
	want(t, "Format", store.Format(d, g), api.OK)
	return d, opened(t, d)
}

func opened(t *testing.T, d *sector.Disk) *store.Store {
	t.Helper()
	s, e := store.Open(d)
	want(t, "Open", e, api.OK)
	return s
}

// put gives the cells of the control values as they are, whether they may be or not.
func put(s *store.Store, c space.Control) {
	for cell, v := range []int{c.Space, c.Free, c.Gc, c.Scan} {
		s.Set(cell, v)
	}
}

// fill gives the cells from at on values.
func fill(s *store.Store, at int, values ...int) {
	for i, v := range values {
		s.Set(at+i, v)
	}
}

// dirt gives all cells behind the control other values than 0.
func dirt(s *store.Store) {
	for cell, cells := 16, len(s.All()); cell < cells; cell++ {
		s.Set(cell, 7_000_000+cell)
	}
}

// newly is what New tells; what stands beside an error must be zero.
type newly struct {
	a     int
	errno api.Errno
}

func newOf(s *store.Store, slots, words int) newly {
	a, errno := alloc.New(s, slots, words)
	return newly{a, errno}
}

// shape is what Shape tells; what stands beside a false must be zero.
type shape struct {
	slots, words int
	is           bool
}

func shaped(s *store.Store, a int) shape {
	slots, words, is := alloc.Shape(s, a)
	return shape{slots, words, is}
}

// headers are all that may be, by the document's words, with what they say.
var headers = laidHeaders()

func laidHeaders() map[int]shape {
	m := map[int]shape{}
	for slots := 0; slots <= 15; slots++ {
		for words := 0; words <= 30; words++ {
			m[16_777_216+256*slots+words] = shape{slots, words, true}
		}
	}
	return m
}

// isRight tells whether the control of some cells may be, by the document's words.
func isRight(cells []int) bool {
	half := (len(cells) - 16) / 2
	no, free, gc, scan := cells[0], cells[1], cells[2], cells[3]
	if no != 0 && no != 1 {
		return false
	}
	base := 16 + no*half
	return base <= free && free <= base+half && (gc == 0 && scan == 0 || gc == 1 && base <= scan && scan <= free)
}

// asked are the objects of some cells, by the document's words: the next one lies behind the one ahead of it, as long as it is whole ahead of Free.
func asked(cells []int) ([]int, map[int]shape) {
	shapes := map[int]shape{}
	if !isRight(cells) {
		return nil, shapes
	}
	var l []int
	at := 16 + cells[0]*(len(cells)-16)/2
	for at < cells[1] {
		is, ok := headers[cells[at]]
		if !ok || at+1+is.slots+is.words > cells[1] {
			break
		}
		l, shapes[at] = append(l, at), is
		at += 1 + is.slots + is.words
	}
	return l, shapes
}

// hold holds Objects, Is and Shape against the document's words, for each cell and for numbers that are none.
func hold(t *testing.T, what string, s *store.Store) {
	t.Helper()
	was := s.All()
	l, shapes := asked(was)
	same(t, what+": Objects", alloc.Objects(s), l)
	cells := []int{math.MinInt, math.MaxInt, api.Wrap, api.Wrap + 16, -16, 1 << 31, -1 << 31, 33_554_448}
	for a := -20; a < len(was)+20; a++ {
		cells = append(cells, a)
	}
	for _, a := range cells {
		want(t, fmt.Sprintf("%s: Is(%d)", what, a), alloc.Is(s, a), shapes[a].is)
		want(t, fmt.Sprintf("%s: Shape(%d)", what, a), shaped(s, a), shapes[a])
	}
	same(t, what+": the cells behind that", s.All(), was)
}

// makes asks for an object, and holds the answer and each cell against the document's words.
func makes(t *testing.T, what string, s *store.Store, slots, words int) {
	t.Helper()
	was := s.All()
	size, half := 1+slots+words, (len(was)-16)/2
	wanted := newly{}
	switch {
	case !isRight(was) || slots < 0 || slots > 15 || words < 0 || words > 30:
		wanted.errno = api.ErrArg
	case was[1]+size > 16+was[0]*half+half:
		wanted.errno = api.ErrHeap
	default:
		wanted.a = was[1]
		clear(was[wanted.a : wanted.a+size])
		was[wanted.a], was[1] = 16_777_216+256*slots+words, wanted.a+size
	}
	what = fmt.Sprintf("%s: New(%d, %d)", what, slots, words)
	want(t, what, newOf(s, slots, words), wanted)
	same(t, what+", the cells", s.All(), was)
}

func TestP1201Examples(t *testing.T) {
	_, s := made(t, api.Geo{Half: 30, Log: 60})
	same(t, "Objects of none", alloc.Objects(s), nil)
	want(t, "New(2, 3)", newOf(s, 2, 3), newly{16, api.OK})
	want(t, "New(0, 1)", newOf(s, 0, 1), newly{22, api.OK})
	same(t, "Objects", alloc.Objects(s), []int{16, 22})
	want(t, "Shape of the first one", shaped(s, 16), shape{2, 3, true})
	want(t, "Shape of the second one", shaped(s, 22), shape{0, 1, true})
	want(t, "Shape between", shaped(s, 17), shape{})
	same(t, "the cells", s.All()[16:24], []int{16_777_731, 0, 0, 0, 0, 0, 16_777_217, 0})
	want(t, "Free", s.Get(api.FreeAt), 24)
}

// TestP1201NewOfEveryShape asks for each number of slots and words about all that may be, in halves that are too small for some of them and on top of cells that were something else.
func TestP1201NewOfEveryShape(t *testing.T) {
	for _, g := range geometries {
		_, s := made(t, g)
		for slots := -3; slots <= 18; slots++ {
			for words := -3; words <= 33; words++ {
				for no := range 2 {
					dirt(s)
					put(s, space.Control{Space: no, Free: 16 + no*g.Half})
					makes(t, fmt.Sprintf("%+v, half %d", g, no), s, slots, words)
				}
			}
		}
	}
}

func TestP1201NewOfNumbersWithoutEnd(t *testing.T) {
	_, s := made(t, api.Geo{Half: 400, Log: 300})
	for _, v := range []int{math.MinInt, math.MinInt + 1, math.MaxInt, math.MaxInt - 1, api.Wrap, api.Wrap + 1, -api.Wrap, 256, -256, 1 << 24, -1 << 24, math.MaxInt/256 + 1} {
		for _, w := range []int{-1, 0, 1, 15, 30, v, -v, 1 - v} {
			makes(t, "the greatest", s, v, w)
			makes(t, "the greatest", s, w, v)
		}
	}
}

// TestP1201NewUpToTheEnd asks for objects of all sizes with each number of cells left: the half is filled up, and not a cell more.
func TestP1201NewUpToTheEnd(t *testing.T) {
	for _, g := range []api.Geo{{Half: 8, Log: 4}, {Half: 46, Log: 60}} {
		_, s := made(t, g)
		for no := range 2 {
			base := 16 + no*g.Half
			for free := base; free <= base+g.Half; free++ {
				for size := 1; size <= g.Half+1 && size <= 46; size++ {
					put(s, space.Control{Space: no, Free: free})
					slots := min(size-1, 15)
					makes(t, fmt.Sprintf("%+v, half %d, Free %d", g, no, free), s, slots, size-1-slots)
				}
			}
		}
	}
}

// TestP1201NewOfWrongShapeInFullHeap asks that what may not be counts ahead of what has no room.
func TestP1201NewOfWrongShapeInFullHeap(t *testing.T) {
	_, s := made(t, api.Geo{Half: 8, Log: 4})
	put(s, space.Control{Free: 24})
	want(t, "New(0, 0), full", newOf(s, 0, 0), newly{0, api.ErrHeap})
	want(t, "New(15, 30), full", newOf(s, 15, 30), newly{0, api.ErrHeap})
	want(t, "New(16, 0), full", newOf(s, 16, 0), newly{0, api.ErrArg})
	want(t, "New(0, 31), full", newOf(s, 0, 31), newly{0, api.ErrArg})
	want(t, "New(-1, 0), full", newOf(s, -1, 0), newly{0, api.ErrArg})
	put(s, space.Control{Free: 25})
	want(t, "New(0, 0), the control may not be", newOf(s, 0, 0), newly{0, api.ErrArg})
}

// TestP1201OfEveryControl asks with each control about those that may be; of others no object is there, and none is made.
func TestP1201OfEveryControl(t *testing.T) {
	g := api.Geo{Half: 8, Log: 8}
	_, s := made(t, g)
	for no := 0; no <= 2; no++ {
		for free := 14; free <= 34; free++ {
			for gc := 0; gc <= 2; gc++ {
				for _, scan := range []int{0, 1, 15, 16, 18, 20, 23, 24, 25, 28, 32, 33, api.Wrap - 1} {
					c := space.Control{Space: no, Free: free, Gc: gc, Scan: scan}
					put(s, c)
					for cell := 16; cell < 32; cell += 2 {
						fill(s, cell, 16_777_217, 5)
					}
					l, _ := asked(s.All())
					same(t, fmt.Sprintf("Objects of %+v", c), alloc.Objects(s), l)
					want(t, fmt.Sprintf("Is(16) of %+v", c), alloc.Is(s, 16), slices.Contains(l, 16))
					want(t, fmt.Sprintf("Is(24) of %+v", c), alloc.Is(s, 24), slices.Contains(l, 24))
					makes(t, fmt.Sprintf("%+v", c), s, 1, 1)
				}
			}
		}
	}
	for cell := range 4 {
		put(s, space.Control{Free: 20})
		s.Set(cell, api.Wrap-1)
		makes(t, fmt.Sprintf("cell %d the greatest", cell), s, 0, 0)
		hold(t, fmt.Sprintf("cell %d the greatest", cell), s)
	}
}

// TestP1201NewWhileACollectionGoesOn asks that a new object lies behind those that moved, and that the rest of the control is as it was.
func TestP1201NewWhileACollectionGoesOn(t *testing.T) {
	_, s := made(t, api.Geo{Half: 20, Log: 60})
	want(t, "New ahead of it", newOf(s, 1, 1), newly{16, api.OK})
	put(s, space.Control{Space: 1, Free: 39, Gc: 1, Scan: 36})
	fill(s, 36, 16_777_216+256+1, 0, 7)
	want(t, "New", newOf(s, 2, 0), newly{39, api.OK})
	want(t, "Get", space.Get(s), space.Control{Space: 1, Free: 42, Gc: 1, Scan: 36})
	same(t, "Objects", alloc.Objects(s), []int{36, 39})
	want(t, "Is of the other half", alloc.Is(s, 16), false)
	hold(t, "a collection", s)
	put(s, space.Control{Space: 1, Free: 42, Gc: 1, Scan: 42})
	makes(t, "all is scanned", s, 0, 1)
	want(t, "Scan", space.Get(s).Scan, 42)
}

// TestP1201NewIsWorking asks that an object is a change as all others: it lasts with a Commit, and Abort takes it back.
func TestP1201NewIsWorking(t *testing.T) {
	d, s := made(t, api.Geo{Half: 30, Log: 60})
	s.Set(api.RootAt, 16)
	room := s.Room()
	want(t, "New", newOf(s, 1, 1), newly{16, api.OK})
	if l, wanted := s.Changed(), []api.Change{{Cell: api.FreeAt, Value: 19}, {Cell: api.RootAt, Value: 16}, {Cell: 16, Value: 16_777_473}}; !slices.Equal(l, wanted) {
		t.Errorf("Changed: %v, not %v", l, wanted)
	}
	want(t, "Room of the log", s.Room(), room)
	s.Abort()
	want(t, "a root that was set ahead of New, behind Abort", s.Get(api.RootAt), 0)
	same(t, "Objects behind Abort", alloc.Objects(s), nil)
	want(t, "New behind Abort", newOf(s, 2, 3), newly{16, api.OK})
	want(t, "Commit", s.Commit(), api.OK)
	want(t, "another New", newOf(s, 0, 1), newly{22, api.OK})
	same(t, "Objects ahead of a crash", alloc.Objects(s), []int{16, 22})
	d.Crash()
	d.Power()
	s = opened(t, d)
	same(t, "Objects behind it", alloc.Objects(s), []int{16})
	want(t, "Shape behind it", shaped(s, 16), shape{2, 3, true})
	want(t, "New behind it", newOf(s, 0, 1), newly{22, api.OK})
}

// TestP1201NewAtOldCells asks that nothing of what Abort took back, or of an object that lay there, is seen in a new one.
func TestP1201NewAtOldCells(t *testing.T) {
	_, s := made(t, api.Geo{Half: 60, Log: 60})
	want(t, "New", newOf(s, 15, 30), newly{16, api.OK})
	for cell := 17; cell < 62; cell++ {
		s.Set(cell, api.Wrap-1)
	}
	want(t, "Commit", s.Commit(), api.OK)
	put(s, space.Control{Free: 16})
	makes(t, "on top of it", s, 15, 30)
	want(t, "Commit", s.Commit(), api.OK)
	fill(s, 62, 1, 2, 3, 4)
	makes(t, "on top of what is working", s, 1, 2)
}

// TestP1201NewIsNotHeldBackByTheLog asks that only the half counts: whether the log has room is told by Commit.
func TestP1201NewIsNotHeldBackByTheLog(t *testing.T) {
	_, s := made(t, api.Geo{Half: 50, Log: 4})
	dirt(s)
	makes(t, "a small log", s, 15, 30)
	want(t, "Commit", s.Commit(), api.ErrLog)
}

// TestP1201WithoutPower asks that objects are told, and made, as cells are, of a store whose power went.
func TestP1201WithoutPower(t *testing.T) {
	d, s := made(t, api.Geo{Half: 30, Log: 60})
	want(t, "New", newOf(s, 0, 2), newly{16, api.OK})
	want(t, "Commit", s.Commit(), api.OK)
	want(t, "another New", newOf(s, 1, 0), newly{19, api.OK})
	d.Arm(0)
	want(t, "Commit without power", s.Commit(), api.ErrOff)
	same(t, "Objects", alloc.Objects(s), []int{16})
	makes(t, "without power", s, 1, 1)
	same(t, "Objects behind New", alloc.Objects(s), []int{16, 19})
}

// TestP1201ObjectsOfEveryLength asks for all shapes, each with Free at each place about its end.
func TestP1201ObjectsOfEveryLength(t *testing.T) {
	_, s := made(t, api.Geo{Half: 50, Log: 60})
	for header, is := range headers {
		behind := 16 + 1 + is.slots + is.words
		for free := behind - 1; free <= behind+1; free++ {
			put(s, space.Control{Free: free})
			fill(s, 16, header)
			l, wanted := []int(nil), shape{}
			if free >= behind {
				l, wanted = []int{16}, is
			}
			what := fmt.Sprintf("%d slots, %d words, Free %d", is.slots, is.words, free)
			same(t, what+": Objects", alloc.Objects(s), l)
			want(t, what+": Shape", shaped(s, 16), wanted)
		}
	}
}

// TestP1201ObjectsEnd asks that all ends where there is no header: nothing behind it counts, whatever it looks like.
func TestP1201ObjectsEnd(t *testing.T) {
	_, s := made(t, api.Geo{Half: 30, Log: 60})
	nones := []int{0, 1, 16, 22, 16_777_215, 16_777_216 + 31, 16_777_216 + 256*16, 33_554_432, 33_554_433, 33_554_432 + 16, 33_554_432 + 46, api.Wrap - 1}
	for _, v := range nones {
		put(s, space.Control{Free: 24})
		fill(s, 16, 16_777_217, 5, v, 16_777_217, 5, 16_777_216, 16_777_216, 16_777_216)
		hold(t, fmt.Sprintf("%d in place of the second header", v), s)
		same(t, fmt.Sprintf("Objects with %d in place of the second header", v), alloc.Objects(s), []int{16})
		fill(s, 16, v)
		same(t, fmt.Sprintf("Objects with %d in place of the first header", v), alloc.Objects(s), nil)
		want(t, "Is of the first one", alloc.Is(s, 16), false)
	}
}

// TestP1201ObjectsEndAtFree asks that a header at Free, or an object that goes over it, is none, also where it would be whole in its half.
func TestP1201ObjectsEndAtFree(t *testing.T) {
	_, s := made(t, api.Geo{Half: 8, Log: 8})
	for no := range 2 {
		base := 16 + no*8
		for cell := 16; cell < 32; cell++ {
			s.Set(cell, 16_777_216)
		}
		for n := 0; n <= 8; n++ {
			put(s, space.Control{Space: no, Free: base + n})
			want(t, fmt.Sprintf("how many of half %d, %d cells used", no, n), len(alloc.Objects(s)), n)
			hold(t, fmt.Sprintf("half %d, %d cells used", no, n), s)
		}
		for words := 0; words <= 9; words++ {
			put(s, space.Control{Space: no, Free: base + 6})
			fill(s, base+2, 16_777_216+words)
			hold(t, fmt.Sprintf("half %d, the third one of %d words", no, words), s)
		}
	}
}

// TestP1201WordsThatLookLikeHeaders asks that what lies inside an object is none, whatever it looks like.
func TestP1201WordsThatLookLikeHeaders(t *testing.T) {
	_, s := made(t, api.Geo{Half: 30, Log: 60})
	want(t, "New", newOf(s, 2, 3), newly{16, api.OK})
	want(t, "another New", newOf(s, 1, 0), newly{22, api.OK})
	for cell := 17; cell < 22; cell++ {
		s.Set(cell, 16_777_216)
	}
	s.Set(23, 16_777_217)
	hold(t, "words like headers", s)
	same(t, "Objects", alloc.Objects(s), []int{16, 22})
}

// TestP1201OfManyHeaps lays heaps of all kinds, as they are made and as they never are, and asks for each cell of them.
func TestP1201OfManyHeaps(t *testing.T) {
	r := rand.New(rand.NewSource(12))
	for _, g := range []api.Geo{{Half: 8, Log: 8}, {Half: 30, Log: 60}, {Half: 100, Log: 300}} {
		_, s := made(t, g)
		for round := range 60 {
			no := r.Intn(2)
			base := 16 + no*g.Half
			for cell := 16; cell < 16+2*g.Half; cell++ {
				s.Set(cell, []int{0, 5, 16_777_216, 16_777_217, 16_777_216 + 256*r.Intn(17) + r.Intn(32), 33_554_432 + r.Intn(50)}[r.Intn(6)])
			}
			put(s, space.Control{Space: no, Free: base + r.Intn(g.Half+1)})
			what := fmt.Sprintf("%+v, round %d", g, round)
			hold(t, what, s)
			put(s, space.Control{Space: no, Free: base})
			for range r.Intn(9) {
				makes(t, what, s, r.Intn(4), r.Intn(4))
				if free := s.Get(api.FreeAt); free > base {
					s.Set(free-1, []int{s.Get(free - 1), 16_777_216, 16_777_217}[r.Intn(3)])
				}
			}
			hold(t, what+", made", s)
		}
	}
}

// TestP1201AnswersAreNew asks that nobody who turns an answer turns a later one.
func TestP1201AnswersAreNew(t *testing.T) {
	_, s := made(t, api.Geo{Half: 30, Log: 60})
	for range 4 {
		alloc.New(s, 1, 1)
	}
	first := alloc.Objects(s)
	second := alloc.Objects(s)
	clear(first)
	same(t, "Objects, told ahead", second, []int{16, 19, 22, 25})
	same(t, "Objects, told behind", alloc.Objects(s), []int{16, 19, 22, 25})
}

// TestP1201StoresApart asks that each store's own geometry and cells count.
func TestP1201StoresApart(t *testing.T) {
	_, small := made(t, api.Geo{Half: 8, Log: 8})
	_, great := made(t, api.Geo{Half: 20, Log: 8})
	for range 2 {
		alloc.New(small, 1, 2)
		alloc.New(great, 1, 2)
	}
	want(t, "New of the smaller one", newOf(small, 1, 2), newly{0, api.ErrHeap})
	want(t, "New of the greater one", newOf(great, 1, 2), newly{24, api.OK})
	same(t, "Objects of the smaller one", alloc.Objects(small), []int{16, 20})
	same(t, "Objects of the greater one", alloc.Objects(great), []int{16, 20, 24})
}

func TestP1201NoStore(t *testing.T) {
	for _, s := range []*store.Store{nil, {}} {
		for _, v := range []int{-1, 0, 1, 16, 31} {
			want(t, fmt.Sprintf("New(%d, %d)", v, v), newOf(s, v, v), newly{0, api.ErrArg})
			want(t, fmt.Sprintf("Is(%d)", v), alloc.Is(s, v), false)
			want(t, fmt.Sprintf("Shape(%d)", v), shaped(s, v), shape{})
		}
		same(t, "Objects", alloc.Objects(s), nil)
	}
}
