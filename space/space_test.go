package space_test

import (
	"fmt"
	"math"
	"slices"
	"testing"

	"flitting/api"
	"flitting/sector"
	"flitting/space"
	"flitting/store"
)

func want[T comparable](t *testing.T, what string, got, wanted T) {
	t.Helper()
	if got != wanted {
		t.Errorf("%s: %#v, not %#v", what, got, wanted)
	}
}

// small is a geometry of which each control that is near to it can be asked for.
var small = api.Geo{Half: 8, Log: 8}

// geometries are some that may be: the smallest and the greatest ones, and some between.
var geometries = []api.Geo{{Half: 8, Log: 4}, {Half: 9, Log: 300}, {Half: 16, Log: 7}, {Half: 31, Log: 5}, {Half: 400, Log: 4}, {Half: 400, Log: 300}}

// wrongs are geometries that may not be.
var wrongs = []api.Geo{{}, {Half: 7, Log: 4}, {Half: 8, Log: 3}, {Half: 401, Log: 300}, {Half: 400, Log: 301}, {Half: -8, Log: 8}, {Half: 8}, {Log: 8}, {Half: api.Wrap + 8, Log: 8}, {Half: math.MaxInt, Log: 8}, {Half: math.MinInt, Log: math.MinInt}}

// made is a disk and a store that was formatted.
func made(t *testing.T, g api.Geo) (*sector.Disk, *store.Store) {
	t.Helper()
	d := sector.New(1000)
	want(t, "Format", store.Format(d, g), api.OK)
	return d, opened(t, d)
}

func opened(t *testing.T, d *sector.Disk) *store.Store {
	t.Helper()
	s, e := store.Open(d)
	want(t, "Open", e, api.OK)
	return s
}

// put gives the cells of the control values as they are, whether they may be or not.
func put(s *store.Store, c space.Control) {
	for cell, v := range []int{c.Space, c.Free, c.Gc, c.Scan} {
		s.Set(cell, v)
	}
}

// laid is where the halves of a geometry that may be lie, by the document's words.
type laid struct{ base, end int }

func halves(g api.Geo) []laid {
	if g.Half < 8 || g.Half > 400 || g.Log < 4 || g.Log > 300 {
		return nil
	}
	return []laid{{16, 16 + g.Half}, {16 + g.Half, 16 + 2*g.Half}}
}

// asked is what the document asks of a control: may it be, and how many cells are left and used then.
type asked struct {
	right      bool
	left, used int
}

func askedOf(g api.Geo, c space.Control) asked {
	for no, h := range halves(g) {
		if c.Space != no || !(h.base <= c.Free && c.Free <= h.end) {
			continue
		}
		idle := c.Gc == 0 && c.Scan == 0
		going := c.Gc == 1 && h.base <= c.Scan && c.Scan <= c.Free
		if idle || going {
			return asked{true, h.end - c.Free, c.Free - h.base}
		}
	}
	return asked{}
}

// near goes over all controls whose numbers lie about what may be in a geometry of small halves.
func near(g api.Geo, each func(space.Control)) {
	for no := -2; no <= 3; no++ {
		for free := -2; free <= 19+2*g.Half; free++ {
			for gc := -2; gc <= 3; gc++ {
				for scan := -2; scan <= 19+2*g.Half; scan++ {
					each(space.Control{Space: no, Free: free, Gc: gc, Scan: scan})
				}
			}
		}
	}
}

// edges are numbers about each edge of a geometry, and such as are far from all that may be.
func edges(g api.Geo) []int {
	l := []int{math.MinInt, math.MinInt + 1, math.MaxInt, math.MaxInt - 1, 1 << 31, -1 << 31, api.Wrap - 1, api.Wrap, api.Wrap + 1, api.Wrap + 16, api.Wrap + 20, -16, -20}
	for _, v := range []int{0, 16, 16 + g.Half, 16 + 2*g.Half} {
		l = append(l, v-1, v, v+1, v+2)
	}
	return l
}

// wide goes over controls whose numbers are edges.
func wide(g api.Geo, each func(space.Control)) {
	l := edges(g)
	for _, no := range []int{-1, 0, 1, 2, api.Wrap, api.Wrap + 1, math.MinInt, math.MaxInt} {
		for _, free := range l {
			for _, gc := range []int{-1, 0, 1, 2, api.Wrap, api.Wrap + 1, math.MinInt, math.MaxInt} {
				for _, scan := range l {
					each(space.Control{Space: no, Free: free, Gc: gc, Scan: scan})
				}
			}
		}
	}
}

func TestP1101Examples(t *testing.T) {
	for _, g := range geometries {
		_, s := made(t, g)
		what := fmt.Sprintf("%+v, formatted: ", g)
		want(t, what+"Get", space.Get(s), space.Control{Free: 16})
		want(t, what+"Left", space.Left(s), g.Half)
		want(t, what+"Used", space.Used(s), 0)
		want(t, what+"Right", space.Right(g, space.Get(s)), true)
	}
}

func TestP1101RightOfEveryControl(t *testing.T) {
	rights := 0
	near(small, func(c space.Control) {
		is := askedOf(small, c).right
		want(t, fmt.Sprintf("Right(%+v)", c), space.Right(small, c), is)
		if is {
			rights++
		}
	})
	// Of each half nine places of Free, and of each of them as many of Scan as cells are used, and one; and one without a collection.
	want(t, "how many may be", rights, 2*(9+45))
}

func TestP1101RightOfEdges(t *testing.T) {
	for _, g := range geometries {
		wide(g, func(c space.Control) {
			want(t, fmt.Sprintf("Right(%+v, %+v)", g, c), space.Right(g, c), askedOf(g, c).right)
		})
	}
}

func TestP1101RightOfWrongGeometries(t *testing.T) {
	for _, g := range wrongs {
		near(small, func(c space.Control) {
			want(t, fmt.Sprintf("Right(%+v, %+v)", g, c), space.Right(g, c), false)
		})
		wide(g, func(c space.Control) {
			want(t, fmt.Sprintf("Right(%+v, %+v)", g, c), space.Right(g, c), false)
		})
	}
}

func TestP1101Get(t *testing.T) {
	_, s := made(t, small)
	for cell := range 32 {
		s.Set(cell, 100+cell)
	}
	want(t, "Get of other numbers", space.Get(s), space.Control{Space: 100, Free: 101, Gc: 102, Scan: 103})
	want(t, "Mark", s.Mark(), api.OK)
	want(t, "Get behind a checkpoint", space.Get(s), space.Control{Space: 100, Free: 101, Gc: 102, Scan: 103})
	for _, v := range []int{0, 1, api.Wrap - 1} {
		for cell := range 4 {
			s.Set(cell, v)
		}
		want(t, fmt.Sprint("Get of ", v), space.Get(s), space.Control{Space: v, Free: v, Gc: v, Scan: v})
	}
	s.Abort()
	want(t, "Get behind Abort", space.Get(s), space.Control{Free: 16})
}

func TestP1101SetOfEveryControl(t *testing.T) {
	_, s := made(t, small)
	for cell := range 32 {
		s.Set(cell, 1000+cell)
	}
	was := s.All()
	near(small, func(c space.Control) {
		right := askedOf(small, c).right
		what := fmt.Sprintf("Set(%+v)", c)
		want(t, what, space.Set(s, c), right)
		if right {
			was[0], was[1], was[2], was[3] = c.Space, c.Free, c.Gc, c.Scan
			want(t, what+", Get", space.Get(s), c)
		}
		if !slices.Equal(s.All(), was) {
			t.Fatalf("%s: cells %v, not %v", what, s.All(), was)
		}
	})
}

func TestP1101SetOfEdges(t *testing.T) {
	for _, g := range geometries {
		_, s := made(t, g)
		was := s.All()
		wide(g, func(c space.Control) {
			right := askedOf(g, c).right
			want(t, fmt.Sprintf("Set(%+v) of %+v", c, g), space.Set(s, c), right)
			if right {
				was[0], was[1], was[2], was[3] = c.Space, c.Free, c.Gc, c.Scan
			}
		})
		if !slices.Equal(s.All(), was) {
			t.Errorf("%+v: cells %v, not %v", g, s.All(), was)
		}
	}
}

// TestP1101SetOfItsOwnGeometry asks that a store's own geometry counts: what may be in a greater one is refused in a smaller one.
func TestP1101SetOfItsOwnGeometry(t *testing.T) {
	_, s := made(t, small)
	_, greater := made(t, api.Geo{Half: 20, Log: 8})
	c := space.Control{Free: 30}
	want(t, "Set of the greater one", space.Set(greater, c), true)
	want(t, "Set of the smaller one", space.Set(s, c), false)
	want(t, "Get of it", space.Get(s), space.Control{Free: 16})
	want(t, "Left of the greater one", space.Left(greater), 6)
}

// TestP1101SetIsWorking asks that Set is a change as all others: it lasts with a Commit, and Abort takes it back.
func TestP1101SetIsWorking(t *testing.T) {
	d, s := made(t, small)
	c := space.Control{Space: 1, Free: 30, Gc: 1, Scan: 25}
	want(t, "Set", space.Set(s, c), true)
	changed := []api.Change{{Cell: 0, Value: 1}, {Cell: 1, Value: 30}, {Cell: 2, Value: 1}, {Cell: 3, Value: 25}}
	if !slices.Equal(s.Changed(), changed) {
		t.Errorf("Changed: %v, not %v", s.Changed(), changed)
	}
	s.Abort()
	want(t, "Get behind Abort", space.Get(s), space.Control{Free: 16})
	want(t, "Left behind Abort", space.Left(s), 8)
	space.Set(s, c)
	want(t, "Commit", s.Commit(), api.OK)
	space.Set(s, space.Control{Free: 20})
	d.Crash()
	d.Power()
	s = opened(t, d)
	want(t, "Get behind a crash", space.Get(s), c)
	want(t, "Left behind a crash", space.Left(s), 2)
	want(t, "Used behind a crash", space.Used(s), 6)
}

// TestP1101SetThatIsRefused asks that a Set that is refused leaves also what is working.
func TestP1101SetThatIsRefused(t *testing.T) {
	_, s := made(t, small)
	for _, was := range []space.Control{{Free: 20}, {Space: 1, Free: 24}, {Free: 24, Gc: 1, Scan: 16}, {Space: 5, Free: 6, Gc: 7, Scan: 8}} {
		put(s, was)
		for _, c := range []space.Control{{}, {Free: 15}, {Free: 25}, {Space: 1, Free: 23}, {Space: 1, Free: 33}, {Space: 2, Free: 16}, {Space: -1, Free: 16}, {Free: 16, Gc: 2}, {Free: 16, Gc: -1, Scan: 16}, {Free: 20, Gc: 1, Scan: 21}, {Free: 20, Gc: 1}, {Free: 20, Scan: 16}, was} {
			if askedOf(small, c).right {
				continue
			}
			want(t, fmt.Sprintf("Set(%+v)", c), space.Set(s, c), false)
			want(t, fmt.Sprintf("Get behind Set(%+v)", c), space.Get(s), was)
		}
	}
}

func TestP1101LeftAndUsedOfEveryControl(t *testing.T) {
	_, s := made(t, small)
	near(small, func(c space.Control) {
		if c.Space < 0 || c.Free < 0 || c.Gc < 0 || c.Scan < 0 {
			return // no cell has it
		}
		put(s, c)
		a := askedOf(small, c)
		want(t, fmt.Sprintf("Left of %+v", c), space.Left(s), a.left)
		want(t, fmt.Sprintf("Used of %+v", c), space.Used(s), a.used)
		want(t, fmt.Sprintf("Get of %+v", c), space.Get(s), c)
	})
}

func TestP1101LeftAndUsedOfEveryFree(t *testing.T) {
	for _, g := range geometries {
		_, s := made(t, g)
		for no, h := range halves(g) {
			for free := h.base - 2; free <= h.end+2; free++ {
				for _, gc := range []int{0, 1} {
					c := space.Control{Space: no, Free: free, Gc: gc, Scan: gc * h.base}
					put(s, c)
					a := askedOf(g, c)
					want(t, fmt.Sprintf("Left of %+v, %+v", g, c), space.Left(s), a.left)
					want(t, fmt.Sprintf("Used of %+v, %+v", g, c), space.Used(s), a.used)
				}
			}
		}
		for cell := range 4 {
			put(s, space.Control{Free: 17})
			s.Set(cell, api.Wrap-1)
			want(t, fmt.Sprintf("Left of %+v, cell %d the greatest", g, cell), space.Left(s), 0)
			want(t, fmt.Sprintf("Used of %+v, cell %d the greatest", g, cell), space.Used(s), 0)
		}
	}
}

// TestP1101OtherCells asks that no other cell counts, and that no call but Set writes.
func TestP1101OtherCells(t *testing.T) {
	_, s := made(t, small)
	space.Set(s, space.Control{Space: 1, Free: 29, Gc: 1, Scan: 27})
	for cell := 4; cell < 32; cell++ {
		s.Set(cell, api.Wrap-1)
	}
	was := s.All()
	want(t, "Get", space.Get(s), space.Control{Space: 1, Free: 29, Gc: 1, Scan: 27})
	want(t, "Left", space.Left(s), 3)
	want(t, "Used", space.Used(s), 5)
	if !slices.Equal(s.All(), was) {
		t.Errorf("cells %v, not %v", s.All(), was)
	}
}

// TestP1101WithoutPower asks that the control is told, as the cells are, of a store whose power went.
func TestP1101WithoutPower(t *testing.T) {
	d, s := made(t, small)
	space.Set(s, space.Control{Free: 20})
	want(t, "Commit", s.Commit(), api.OK)
	space.Set(s, space.Control{Free: 22})
	d.Arm(0)
	want(t, "Commit without power", s.Commit(), api.ErrOff)
	want(t, "Get", space.Get(s), space.Control{Free: 20})
	want(t, "Left", space.Left(s), 4)
	want(t, "Used", space.Used(s), 4)
	want(t, "Set", space.Set(s, space.Control{Free: 21}), true)
	want(t, "Get behind Set", space.Get(s), space.Control{Free: 21})
}

func TestP1101NoStore(t *testing.T) {
	for _, s := range []*store.Store{nil, {}} {
		want(t, "Get", space.Get(s), space.Control{})
		want(t, "Left", space.Left(s), 0)
		want(t, "Used", space.Used(s), 0)
		for _, c := range []space.Control{{}, {Free: 16}, {Free: 24}, {Space: 1, Free: 24}, {Free: 16, Gc: 1, Scan: 16}} {
			want(t, fmt.Sprintf("Set(%+v)", c), space.Set(s, c), false)
		}
		want(t, "Get behind Set", space.Get(s), space.Control{})
	}
}
