package store_test

import (
	"fmt"
	"slices"
	"strings"
	"testing"

	"flitting/api"
	"flitting/crown"
	"flitting/entry"
	"flitting/page"
	"flitting/sector"
	"flitting/store"
)

// least is the smallest geometry: two pages, and a log of four sectors from sector 14 on.
var least = api.Geo{Half: 8, Log: 4}

var zeros = strings.Repeat("\x00", api.Sector)

// deed is a Write, or a Barrier.
type deed struct {
	at int
	b  string
}

// barrier is the place of a Barrier.
const barrier = -1

// tale is a store as the document tells it: what it has, and which deeds make it so.
type tale struct {
	g        api.Geo
	super    api.Super
	next     int
	was, now []int // all cells: as committed, and as they work
}

func pagesOf(g api.Geo) int { return (16 + 2*g.Half + 15) / 16 }

func logAt(g api.Geo) int { return 2 + 6*pagesOf(g) }

func sectorsOf(g api.Geo) int { return logAt(g) + g.Log }

// formatted is a tale's begin: no store yet, but what one would find.
func formatted(g api.Geo) tale {
	cells := make([]int, 16+2*g.Half)
	cells[1] = 16
	return tale{g: g, super: api.Super{Seq: 1, Head: 0, Epoch: 1, Half: g.Half, Log: g.Log}, was: cells, now: slices.Clone(cells)}
}

// pageDeeds write all pages as they were committed.
func (x tale) pageDeeds(version int) []deed {
	cells := append(slices.Clone(x.was), make([]int, 16)...)
	var l []deed
	for no := range pagesOf(x.g) {
		sectors, _ := page.Put(no, version, cells[16*no:16*no+16])
		for i, b := range sectors {
			l = append(l, deed{2 + 6*no + 3*(version%2) + i, b})
		}
	}
	return l
}

func crownDeed(s api.Super) deed {
	b, _ := crown.Put(s)
	return deed{s.Seq % 2, b}
}

// formatDeeds are those of Format.
func formatDeeds(g api.Geo) []deed {
	x := formatted(g)
	l := []deed{{0, zeros}, {1, zeros}, {at: barrier}}
	l = append(l, x.pageDeeds(1)...)
	for no := range pagesOf(g) {
		for i := range 3 {
			l = append(l, deed{2 + 6*no + i, zeros})
		}
	}
	for i := range g.Log {
		l = append(l, deed{logAt(g) + i, zeros})
	}
	elder := x.super
	elder.Seq = 0
	return append(l, deed{at: barrier}, crownDeed(elder), crownDeed(x.super), deed{at: barrier})
}

// marked is the crown behind a Mark.
func (x tale) marked() api.Super {
	return api.Super{Seq: x.super.Seq + 1, Head: x.next, Epoch: x.super.Epoch + 1, Half: x.g.Half, Log: x.g.Log}
}

// mark does a Mark: its deeds.
func (x *tale) mark() []deed {
	l := append(x.pageDeeds(x.super.Seq+1), deed{at: barrier}, crownDeed(x.marked()), deed{at: barrier})
	x.super = x.marked()
	return l
}

func (x tale) room() int { return x.g.Log - (x.next - x.super.Head) }

func (x tale) changed() []api.Change {
	var l []api.Change
	for i, v := range x.now {
		if v != x.was[i] {
			l = append(l, api.Change{Cell: i, Value: v})
		}
	}
	return l
}

// group are the deeds of what is appended, without the Barrier.
func (x tale) group() []deed {
	c := x.changed()
	l := make([]deed, len(c)+1)
	for i := range l {
		e := api.Entry{Kind: 2, Lsn: x.next + i, Epoch: x.super.Epoch, Cell: len(c)}
		if i < len(c) {
			e.Kind, e.Cell, e.Value = 1, c[i].Cell, c[i].Value
		}
		b, _ := entry.Put(e)
		l[i] = deed{logAt(x.g) + e.Lsn%x.g.Log, b}
	}
	return l
}

// commit does a Commit: its deeds, and what it tells.
func (x *tale) commit() ([]deed, api.Errno) {
	need := len(x.changed()) + 1
	switch {
	case need == 1:
		return nil, api.OK
	case need > x.g.Log:
		return nil, api.ErrLog
	}
	var l []deed
	if need > x.room() {
		l = x.mark()
	}
	l = append(append(l, x.group()...), deed{at: barrier})
	x.next += need
	x.was = slices.Clone(x.now)
	return l, api.OK
}

// turn gives n cells values that they never had; i is which act it is.
func (x *tale) turn(s *store.Store, i, n int) {
	x.now = slices.Clone(x.now)
	for j := range n {
		cell := (7*i + 5*j) % len(x.now)
		x.now[cell] = 1000*(i+1) + j
		s.Set(cell, x.now[cell])
	}
}

// done are sectors behind deeds.
func done(sectors []string, l []deed) []string {
	sectors = slices.Clone(sectors)
	for _, x := range l {
		if x.at != barrier {
			sectors[x.at] = x.b
		}
	}
	return sectors
}

// lasting are the writes that last, if the power goes at the k-th deed: those ahead of a Barrier that was done, and, of the others, those that mask keeps. The second answer is how many others there are.
func lasting(l []deed, k, mask int) ([]deed, int) {
	var lasts, waits []deed
	for i, x := range l[:k+1] {
		switch {
		case x.at != barrier:
			waits = append(waits, x)
		case i < k:
			lasts, waits = append(lasts, waits...), nil
		}
	}
	for i, x := range waits {
		if mask>>i&1 == 1 {
			lasts = append(lasts, x)
		}
	}
	return lasts, len(waits)
}

// kept is a mask as Crash takes it.
func kept(mask, n int) []int {
	l := make([]int, n)
	for i := range l {
		l[i] = mask >> i & 1
	}
	return l
}

func shown(d *sector.Disk) []string {
	l := make([]string, d.Len())
	for k := range l {
		l[k], _ = d.Read(k)
	}
	return l
}

func want[T comparable](t *testing.T, what string, got, wanted T) {
	t.Helper()
	if got != wanted {
		t.Errorf("%s: %v, not %v", what, got, wanted)
	}
}

// tells is all that a store tells of itself, and tells of a tale what its store would.
func tells(s *store.Store) string {
	return fmt.Sprint(s.Geo(), s.Super(), s.Room(), s.Off(), s.Changed(), s.All())
}

func (x tale) tells() string {
	return fmt.Sprint(x.g, x.super, x.room(), false, x.changed(), x.now)
}

// check holds a store, and its disk, against a tale.
func check(t *testing.T, path string, d *sector.Disk, s *store.Store, x tale, sectors []string) {
	t.Helper()
	if got := tells(s); got != x.tells() {
		t.Fatalf("%s: %s, not %s", path, got, x.tells())
	}
	for k, b := range shown(d) {
		if b != sectors[k] {
			t.Fatalf("%s: sector %d is %q, not %q", path, k, b, sectors[k])
		}
	}
	want(t, path+": what waits", d.Waits(), 0)
}

// begun is a formatted disk, opened, and all of it as a tale.
func begun(t *testing.T, g api.Geo) (*sector.Disk, *store.Store, tale, []string) {
	t.Helper()
	d := sector.New(sectorsOf(g))
	want(t, "Format", store.Format(d, g), api.OK)
	x := formatted(g)
	sectors := done(make([]string, sectorsOf(g)), formatDeeds(g))
	s := opened(t, d)
	sectors = done(sectors, x.mark())
	check(t, "begun", d, s, x, sectors)
	return d, s, x, sectors
}

// opened is the store of a disk, that must be there.
func opened(t *testing.T, d *sector.Disk) *store.Store {
	t.Helper()
	d.Power()
	s, errno := store.Open(d)
	if s == nil || errno != api.OK {
		t.Fatalf("Open: %v, %d", s, errno)
	}
	return s
}

// Acts that are no commits; those that are have the number of cells that are turned ahead of them.
const (
	turning  = -1 // two cells, and no more
	marking  = -2
	aborting = -3
	opening  = -4 // behind a fall of the power
)

// play does acts, and looks at all behind each of them.
func play(t *testing.T, g api.Geo, acts []int) (*sector.Disk, *store.Store, tale, []string) {
	t.Helper()
	d, s, x, sectors := begun(t, g)
	for i, act := range acts {
		path := fmt.Sprint(g, " behind ", acts[:i+1])
		ahead := d.Deeds()
		var l []deed
		got, wanted := api.OK, api.OK
		switch act {
		case turning:
			x.turn(s, i, 2)
		case marking:
			l = x.mark()
			got = s.Mark()
		case aborting:
			x.now = x.was
			s.Abort()
		case opening:
			d.Crash()
			s = opened(t, d)
			x.now = x.was
			l = x.mark()
		default:
			x.turn(s, i, act)
			l, wanted = x.commit()
			got = s.Commit()
		}
		sectors = done(sectors, l)
		want(t, path, got, wanted)
		want(t, path+": deeds", d.Deeds()-ahead, len(l))
		check(t, path, d, s, x, sectors)
	}
	return d, s, x, sectors
}

// all calls f with each list of just n acts.
func all(n int, f func(acts []int), ahead ...int) {
	if n == 0 {
		f(ahead)
		return
	}
	for _, act := range []int{turning, marking, aborting, opening, 0, 1, 2, 3, 4} {
		all(n-1, f, append(slices.Clone(ahead), act)...)
	}
}

func TestP903AllStories(t *testing.T) {
	all(4, func(acts []int) { play(t, least, acts) })
}

// TestP903LongStories go round the log many times, in geometries of which the last page is filled up, or not.
func TestP903LongStories(t *testing.T) {
	for _, g := range []api.Geo{{Half: 8, Log: 5}, {Half: 9, Log: 7}, {Half: 15, Log: 11}, {Half: 16, Log: 4}, {Half: 17, Log: 300}, {Half: api.MaxHalf, Log: 30}} {
		var acts []int
		for i := range 60 {
			acts = append(acts, []int{1, turning, 2, 3, marking, 0, aborting, 5, opening, 3, turning, 9, 1}[i*i%13])
		}
		play(t, g, acts)
	}
}

// falls calls f for each deed of a list, and each choice of the writes that wait when the power goes there.
func falls(l []deed, f func(k, mask, waits int)) {
	for k := range l {
		_, waits := lasting(l, k, 0)
		for mask := range 1 << waits {
			f(k, mask, waits)
		}
	}
}

// fallen is a tale behind a fall of the power amid an act: which crown lasts, and whether a group is there wholly. Ahead of it the tale was ahead, behind the whole act it would be behind.
func fallen(ahead, behind tale, l []deed, lasts []deed) tale {
	x := ahead
	x.now = x.was
	if behind.super != ahead.super && slices.Contains(lasts, crownDeed(behind.super)) {
		x.super = behind.super
	}
	if behind.next == ahead.next { // no group was appended
		return x
	}
	size := behind.next - ahead.next
	group := l[len(l)-1-size : len(l)-1]
	if slices.ContainsFunc(group, func(e deed) bool { return !slices.Contains(lasts, e) }) {
		return x
	}
	x.next, x.was, x.now = behind.next, behind.was, behind.was
	return x
}

// fall lets the power go at the k-th deed of an act, and opens what lasts.
func fall(t *testing.T, path string, g api.Geo, acts []int, act, k, mask, waits int) (*sector.Disk, *store.Store, tale, []string) {
	t.Helper()
	d, s, x, sectors := play(t, g, acts)
	ahead := x
	var l []deed
	if act == marking {
		l = x.mark()
	} else {
		x.turn(s, len(acts), act)
		l, _ = x.commit()
	}
	d.Arm(k, kept(mask, waits)...)
	if act == marking {
		want(t, path, s.Mark(), api.ErrOff)
	} else {
		want(t, path, s.Commit(), api.ErrOff)
	}
	ended(t, path, d, s, ahead)
	lasts, _ := lasting(l, k, mask)
	behind := fallen(ahead, x, l, lasts)
	sectors = done(sectors, lasts)
	d.Power()
	if got := strings.Join(shown(d), ""); got != strings.Join(sectors, "") {
		t.Fatalf("%s: not the sectors that the document asks for", path)
	}
	ended(t, path, d, s, ahead) // also when there is power again
	return d, s, behind, sectors
}

// ended looks whether a store is Off as it should be.
func ended(t *testing.T, path string, d *sector.Disk, s *store.Store, x tale) {
	t.Helper()
	deeds := d.Deeds()
	for range 2 {
		want(t, path+": what ended", fmt.Sprint(s.Off(), s.Changed(), s.All()), fmt.Sprintf("true [] %v", x.was))
		want(t, path+": Set", s.Set(20, 77), true)
		want(t, path+": Commit", s.Commit(), api.ErrOff)
		want(t, path+": Set", s.Set(21, 77), true)
		want(t, path+": Mark", s.Mark(), api.ErrOff)
	}
	want(t, path+": deeds", d.Deeds(), deeds)
}

// pairs are lists of one or two acts.
func pairs(f func(acts []int)) {
	all(1, f)
	for _, acts := range [][]int{{2, turning}, {3, turning}, {2, 1}, {3, 3}, {2, marking}, {1, opening}, {opening, 3}, {marking, marking}, {3, aborting}} {
		f(acts)
	}
}

// TestP904Falls is W2: amid a Commit, also one that makes a checkpoint, and amid a Mark.
func TestP904Falls(t *testing.T) {
	seen := map[string]int{}
	pairs(func(acts []int) {
		for _, act := range []int{marking, 1, 2, 3} {
			_, s, x, _ := play(t, least, acts)
			var l []deed
			if act == marking {
				l = x.mark()
			} else {
				x.turn(s, len(acts), act)
				l, _ = x.commit()
			}
			falls(l, func(k, mask, waits int) {
				path := fmt.Sprint("behind ", acts, ", amid ", act, ", at ", k, " with ", kept(mask, waits))
				d, _, y, sectors := fall(t, path, least, acts, act, k, mask, waits)
				seen[fmt.Sprint(y.next == x.next, y.super == x.super)]++
				s := opened(t, d)
				check(t, path, d, s, y, done(sectors, y.mark()))
			})
		}
	})
	for _, what := range []string{"false false", "false true", "true false", "true true"} {
		want(t, "there were falls of each kind: "+what, seen[what] > 0, true)
	}
}

// TestP902Falls is W2 while the store is opened: again and again, and then wholly.
func TestP902Falls(t *testing.T) {
	for _, acts := range [][]int{nil, {2}, {1, 1}, {3, marking}, {2, 2, 1}} {
		first, _, x, sectors := play(t, least, acts)
		first.Crash()
		first.Power()
		y := x
		l := y.mark()
		falls(l, func(k, mask, waits int) {
			path := fmt.Sprint("behind ", acts, ", at ", k, " with ", kept(mask, waits))
			d := first.Twin()
			d.Arm(k, kept(mask, waits)...)
			refused(t, path, d, api.ErrOff)
			lasts, _ := lasting(l, k, mask)
			z, sectors := fallen(x, y, l, lasts), done(sectors, lasts)
			again := z
			m := again.mark()
			for j := range m {
				for _, mask := range []int{0, 1<<10 - 1, 1, 0b10110} {
					d := d.Twin()
					d.Power()
					d.Arm(j, kept(mask, 10)...)
					refused(t, path, d, api.ErrOff)
					lasts, _ := lasting(m, j, mask)
					last := fallen(z, again, m, lasts)
					check(t, fmt.Sprint(path, ", then at ", j), d, opened(t, d), last, done(done(sectors, lasts), last.mark()))
				}
			}
		})
	}
}

// refused looks whether there is no store, but an error.
func refused(t *testing.T, what string, d *sector.Disk, wanted api.Errno) {
	t.Helper()
	s, errno := store.Open(d)
	if s != nil || errno != wanted {
		t.Errorf("%s: Open %v, %d, not %d", what, s, errno, wanted)
	}
}
