package store_test

import (
	"fmt"
	"math"
	"slices"
	"strings"
	"testing"

	"flitting/api"
	"flitting/crown"
	"flitting/entry"
	"flitting/page"
	"flitting/sector"
	"flitting/store"
)

// limit is what Seq, Head and Epoch of a crown are at most.
const limit = 900_000_000

// mark is a sector that is nothing of a store.
var mark = strings.Repeat("x", api.Sector)

// geometries are some that may be: the smallest and the greatest ones, and about where a page is full.
var geometries = []api.Geo{{Half: 8, Log: 4}, {Half: 9, Log: 4}, {Half: 15, Log: 5}, {Half: 16, Log: 6}, {Half: 17, Log: 300}, {Half: 400, Log: 4}, {Half: 400, Log: 300}}

// marked is a disk of which each sector is a mark, that lasts.
func marked(n int) *sector.Disk {
	d := sector.New(n)
	for k := range n {
		d.Write(k, mark)
	}
	d.Barrier()
	return d
}

// same holds the sectors of a disk against what they should be.
func same(t *testing.T, what string, d *sector.Disk, wanted []string) {
	t.Helper()
	for k, b := range shown(d) {
		if b != wanted[k] {
			t.Errorf("%s: sector %d is %q, not %q", what, k, b, wanted[k])
		}
	}
}

// laid is a disk of n sectors with a tale's crowns, pages and some entries, and then what else is asked for.
func laid(x tale, n int, l []api.Entry, more ...deed) *sector.Disk {
	d := sector.New(n)
	elder := x.super
	elder.Seq--
	deeds := append([]deed{crownDeed(elder), crownDeed(x.super)}, x.pageDeeds(x.super.Seq)...)
	for _, e := range l {
		b, _ := entry.Put(e)
		deeds = append(deeds, deed{logAt(x.g) + e.Lsn%x.g.Log, b})
	}
	for _, e := range append(deeds, more...) {
		d.Write(e.at, e.b)
	}
	d.Barrier()
	return d
}

// of is a tale with cells of its own, and with the numbers of its crown.
func of(g api.Geo, seq, head, epoch int) tale {
	x := formatted(g)
	x.super.Seq, x.super.Head, x.super.Epoch, x.next = seq, head, epoch, head
	for i := range x.was {
		x.was[i] = 100 + i
	}
	x.now = x.was
	return x
}

// turned is bytes of which one is another one.
func turned(b string, k int) string {
	l := []byte(b)
	l[k] ^= 1
	return string(l)
}

func TestP901Format(t *testing.T) {
	for _, g := range geometries {
		for _, more := range []int{0, 1, 7} {
			d := marked(sectorsOf(g) + more)
			ahead, wanted := d.Deeds(), done(shown(d), formatDeeds(g))
			what := fmt.Sprint(g, more)
			want(t, what, store.Format(d, g), api.OK)
			same(t, what, d, wanted)
			want(t, what+": deeds", d.Deeds()-ahead, 2+6*pagesOf(g)+g.Log+2+3)
			want(t, what+": what waits", d.Waits(), 0)
			x := formatted(g)
			wanted = done(wanted, x.mark())
			check(t, what, d, opened(t, d), x, wanted)
		}
	}
}

// TestP901Order lets the power go at each deed of Format: over marks, and over an earlier store.
func TestP901Order(t *testing.T) {
	g := api.Geo{Half: 9, Log: 5}
	old := of(g, 6, 17, 9)
	for what, first := range map[string]*sector.Disk{"marks": marked(sectorsOf(g)), "an earlier store": laid(old, sectorsOf(g), nil)} {
		l := formatDeeds(g)
		for k := range l {
			_, waits := lasting(l, k, 0)
			for _, mask := range []int{0, 1, 2, 3, 0x5555555, 0xAAAAAAA, 0xFFFFFFF} {
				d := first.Twin()
				wrote, _ := lasting(l, k, mask)
				wanted := done(shown(d), wrote)
				path := fmt.Sprint("over ", what, ", at ", k, " with ", kept(mask, waits))
				d.Arm(k, kept(mask, waits)...)
				want(t, path, store.Format(d, g), api.ErrOff)
				d.Power()
				same(t, path, d, wanted)
				foundAmidFormat(t, path, d, old)
				want(t, path+": again", store.Format(d, g), api.OK)
				same(t, path+": again", d, done(wanted, l))
			}
		}
	}
}

// foundAmidFormat opens what lasts of a Format: nothing, or what was there, or what Format makes.
func foundAmidFormat(t *testing.T, path string, d *sector.Disk, old tale) {
	t.Helper()
	d = d.Twin()
	b, _ := d.Read(0)
	c, _ := d.Read(1)
	x, y := old, formatted(old.g)
	elder := y.super
	elder.Seq = 0
	switch {
	case b == crownDeed(x.super).b && c != zeros:
		x.mark()
		want(t, path, tells(opened(t, d)), x.tells())
	case b == crownDeed(elder).b && c == crownDeed(y.super).b:
		y.mark()
		want(t, path, tells(opened(t, d)), y.tells())
	default:
		refused(t, path, d, api.ErrCorrupt)
	}
}

func TestP901Refuses(t *testing.T) {
	numbers := []int{math.MinInt, -1, 0, 3, 4, 5, 7, 8, 9, 299, 300, 301, 399, 400, 401, math.MaxInt}
	for _, half := range numbers {
		for _, log := range numbers {
			g, d := api.Geo{Half: half, Log: log}, sector.New(3000)
			wanted := api.ErrArg
			if half >= 8 && half <= 400 && log >= 4 && log <= 300 {
				wanted = api.OK
			}
			d.Arm(1000, 1)
			want(t, fmt.Sprint(g), store.Format(d, g), wanted)
			want(t, fmt.Sprint(g, " is done"), d.Deeds() > 0, wanted == api.OK)
			want(t, fmt.Sprint(g, " of nil"), store.Format(nil, g), api.ErrArg)
			want(t, fmt.Sprint(g, " of zero"), store.Format(&sector.Disk{}, g), api.ErrArg)
			d.Crash()
			if wanted == api.OK {
				wanted = api.ErrOff
			}
			want(t, fmt.Sprint(g, " without power"), store.Format(d, g), wanted)
		}
	}
	for _, g := range geometries {
		for _, n := range []int{0, 1, 2, g.Log, logAt(g), sectorsOf(g) - 1} {
			d := sector.New(n)
			want(t, fmt.Sprint(g, n), store.Format(d, g), api.ErrArg)
			want(t, fmt.Sprint(g, n, " is done"), d.Deeds(), 0)
			d.Crash()
			want(t, fmt.Sprint(g, n, " without power"), store.Format(d, g), api.ErrArg)
		}
	}
}

func TestP902Open(t *testing.T) {
	for _, g := range geometries {
		for _, seq := range []int{1, 2, 7, 258, limit - 1} {
			for _, more := range []int{0, 5} {
				x := of(g, seq, seq/2, seq)
				d := laid(x, sectorsOf(g)+more, nil)
				ahead, sectors := d.Deeds(), shown(d)
				what := fmt.Sprint(x.super, more)
				l := x.mark()
				s := opened(t, d)
				check(t, what, d, s, x, done(sectors, l))
				want(t, what+": deeds", d.Deeds()-ahead, len(l))
			}
		}
	}
}

func TestP902NoDisk(t *testing.T) {
	refused(t, "nil", nil, api.ErrArg)
	refused(t, "zero", &sector.Disk{}, api.ErrArg)
	for _, n := range []int{0, 1, 2, 30, 3000} {
		d := sector.New(n)
		refused(t, fmt.Sprint(n, " sectors of zeros"), d, api.ErrCorrupt)
		want(t, fmt.Sprint(n, ": deeds"), d.Deeds(), 0)
		d.Crash()
		refused(t, fmt.Sprint(n, " sectors without power"), d, api.ErrOff)
	}
	for _, x := range []tale{of(least, 4, 5, 6), of(least, limit, 5, 6)} {
		d := laid(x, sectorsOf(least), nil)
		d.Crash()
		refused(t, "a store without power", d, api.ErrOff)
	}
}

func TestP902Short(t *testing.T) {
	for _, g := range geometries {
		x := of(g, 3, 0, 1)
		for _, n := range []int{1, 2, 8, logAt(g), sectorsOf(g) - 1} {
			refused(t, fmt.Sprint(g, n), laid(x, n, nil), api.ErrCorrupt)
		}
		opened(t, laid(x, sectorsOf(g), nil))
	}
}

// TestP902Crowns puts all pairs of some crowns into both places.
func TestP902Crowns(t *testing.T) {
	var supers []api.Super
	for seq := range 6 {
		for _, g := range []api.Geo{{Half: 8, Log: 4}, {Half: 9, Log: 4}, {Half: 8, Log: 5}} {
			supers = append(supers, api.Super{Seq: seq, Head: 3, Epoch: 2 + seq, Half: g.Half, Log: g.Log})
		}
	}
	good := 0
	for _, a := range supers {
		for _, b := range supers {
			newer := a
			if b.Seq > a.Seq {
				newer = b
			}
			x := of(api.Geo{Half: newer.Half, Log: newer.Log}, newer.Seq, newer.Head, newer.Epoch)
			d := laid(x, 40, nil, deed{0, crownDeed(a).b}, deed{1, crownDeed(b).b})
			what := fmt.Sprint(a, b)
			mayBe := a.Seq%2 == 0 && b.Seq%2 == 1 && a.Half == b.Half && a.Log == b.Log && (a.Seq == b.Seq+1 || b.Seq == a.Seq+1)
			if !mayBe {
				refused(t, what, d, api.ErrCorrupt)
				continue
			}
			good++
			x.mark()
			want(t, what, tells(opened(t, d)), x.tells())
		}
	}
	want(t, "pairs that may be", good, 3*5)
}

func TestP902SpoiltCrowns(t *testing.T) {
	for _, seq := range []int{4, 5} {
		x := of(least, seq, 7, 3)
		for k := range 2 {
			whole, _ := laid(x, 18, nil).Read(k)
			spoilt := []string{zeros, mark}
			for i := range whole {
				spoilt = append(spoilt, turned(whole, i))
			}
			for _, b := range spoilt {
				d := laid(x, 18, nil, deed{k, b})
				ahead := d.Deeds()
				refused(t, fmt.Sprintf("Seq %d, crown %d %q", seq, k, b), d, api.ErrCorrupt)
				want(t, "nothing is done", d.Deeds(), ahead)
			}
		}
	}
}

// TestP902Pages spoils each byte of all pages, in both slots.
func TestP902Pages(t *testing.T) {
	for _, seq := range []int{4, 5} {
		x := of(least, seq, 7, 3)
		counts := x.pageDeeds(seq)
		for _, p := range counts {
			for i := range p.b {
				d := laid(x, 18, nil, deed{p.at, turned(p.b, i)})
				ahead := d.Deeds()
				refused(t, fmt.Sprint("sector ", p.at, " byte ", i), d, api.ErrCorrupt)
				want(t, "nothing is done", d.Deeds(), ahead)
			}
		}
		for k := 2; k < 14; k++ {
			if slices.ContainsFunc(counts, func(p deed) bool { return p.at == k }) {
				continue
			}
			y, d := x, laid(x, 18, nil, deed{k, mark})
			y.mark()
			want(t, fmt.Sprint("the other slot's sector ", k), tells(opened(t, d)), y.tells())
		}
	}
}

// TestP902OtherPages puts whole pages where others must be.
func TestP902OtherPages(t *testing.T) {
	x := of(least, 4, 7, 3)
	pageIn := func(no, version, at int) []deed {
		sectors, _ := page.Put(no, version, x.was[:16])
		return []deed{{at, sectors[0]}, {at + 1, sectors[1]}, {at + 2, sectors[2]}}
	}
	for _, version := range []int{0, 2, 3, 5, 6} {
		for no := range 2 {
			refused(t, fmt.Sprint("page ", no, " of version ", version), laid(x, 18, nil, pageIn(no, version, 2+6*no)...), api.ErrCorrupt)
		}
	}
	refused(t, "page 1 in place of 0", laid(x, 18, nil, pageIn(1, 4, 2)...), api.ErrCorrupt)
	refused(t, "page 0 in place of 1", laid(x, 18, nil, pageIn(0, 4, 8)...), api.ErrCorrupt)
	want(t, "page 0 itself", opened(t, laid(x, 18, nil, pageIn(0, 4, 2)...)).Get(5), 105)
}

// grouped are the entries of changes.
func grouped(lsn, epoch int, c ...api.Change) []api.Entry {
	l, _ := entry.Group(lsn, epoch, c...)
	return l
}

func TestP902Log(t *testing.T) {
	g := api.Geo{Half: 9, Log: 12} // 34 cells, in three pages
	const head, epoch = 29, 3
	for _, c := range []struct {
		what  string
		l     []api.Entry
		next  int
		cells []api.Change
	}{
		{"nothing", nil, head, nil},
		{"a group", grouped(head, epoch, api.Change{Cell: 20, Value: 7}, api.Change{Cell: 3, Value: 8}), head + 3, []api.Change{{Cell: 20, Value: 7}, {Cell: 3, Value: 8}}},
		{"all edges", grouped(head, epoch, api.Change{Cell: 0, Value: 0}, api.Change{Cell: 33, Value: api.Wrap - 1}), head + 3, []api.Change{{Cell: 0}, {Cell: 33, Value: api.Wrap - 1}}},
		{"the last one counts", grouped(head, epoch, api.Change{Cell: 20, Value: 7}, api.Change{Cell: 20, Value: 8}), head + 3, []api.Change{{Cell: 20, Value: 8}}},
		{"also of groups", append(grouped(head, epoch, api.Change{Cell: 20, Value: 7}), grouped(head+2, epoch, api.Change{Cell: 20, Value: 8})...), head + 4, []api.Change{{Cell: 20, Value: 8}}},
		{"cells that there are not", grouped(head, epoch, api.Change{Cell: 34, Value: 1}, api.Change{Cell: 5, Value: 2}, api.Change{Cell: 47, Value: 3}, api.Change{Cell: 48, Value: 4}, api.Change{Cell: 1000, Value: 5}, api.Change{Cell: api.Wrap - 1, Value: 6}), head + 7, []api.Change{{Cell: 5, Value: 2}}},
		{"all of the log", grouped(head, epoch, make([]api.Change, 11)...), head + 12, []api.Change{{}}},
		{"no commit", grouped(head, epoch, api.Change{Cell: 20, Value: 7}, api.Change{Cell: 21, Value: 7})[:2], head, nil},
		{"a second group that is not whole", append(grouped(head, epoch, api.Change{Cell: 20, Value: 7}), grouped(head+2, epoch, api.Change{Cell: 21, Value: 8})[:1]...), head + 2, []api.Change{{Cell: 20, Value: 7}}},
		{"of an elder epoch", grouped(head, epoch-1, api.Change{Cell: 20, Value: 7}), head, nil},
		{"of a later epoch", grouped(head, epoch+9, api.Change{Cell: 20, Value: 7}), head, nil},
		{"of an elder round", grouped(head-12, epoch, api.Change{Cell: 20, Value: 7}), head, nil},
		{"behind the head", grouped(head+1, epoch, api.Change{Cell: 20, Value: 7}), head, nil},
	} {
		x := of(g, 5, head, epoch)
		d := laid(x, sectorsOf(g), c.l)
		sectors := shown(d)
		x.next, x.was = c.next, slices.Clone(x.was)
		for _, v := range c.cells {
			x.was[v.Cell] = v.Value
		}
		x.now = x.was
		l := x.mark()
		check(t, c.what, d, opened(t, d), x, done(sectors, l))
		y := x
		l = append(l, y.mark()...)
		check(t, c.what+", opened twice", d, opened(t, d), y, done(sectors, l))
	}
}

func TestP902Limits(t *testing.T) {
	for _, c := range []struct {
		what             string
		seq, head, epoch int
		wanted           api.Errno
	}{
		{"just fits", limit - 1, limit, limit - 1, api.OK},
		{"Seq", limit, 0, 1, api.ErrLog},
		{"Epoch", 1, 0, limit, api.ErrLog},
		{"both", limit, limit, limit, api.ErrLog},
	} {
		x := of(least, c.seq, c.head, c.epoch)
		d := laid(x, 18, nil)
		ahead, sectors := d.Deeds(), shown(d)
		if c.wanted == api.OK {
			l := x.mark()
			check(t, c.what, d, opened(t, d), x, done(sectors, l))
			continue
		}
		refused(t, c.what, d, c.wanted)
		same(t, c.what, d, sectors)
		want(t, c.what+": deeds", d.Deeds(), ahead)
		refused(t, c.what+", and a page is spoilt", laid(x, 18, nil, deed{x.pageDeeds(c.seq)[3].at, mark}), api.ErrCorrupt)
	}
	x := of(least, 4, limit, 3)
	refused(t, "Head, behind a commit", laid(x, 18, grouped(limit, 3, api.Change{Cell: 20, Value: 7})), api.ErrLog)
	x = of(least, 4, limit-2, 3)
	want(t, "Head, just fits", opened(t, laid(x, 18, grouped(limit-2, 3, api.Change{Cell: 20, Value: 7}))).Get(20), 7)
}

func TestP903Cells(t *testing.T) {
	values := []int{math.MinInt, -1, 0, 1, 255, 256, 1 << 31, api.Wrap - 2, api.Wrap - 1, api.Wrap, api.Wrap + 1, math.MaxInt}
	for _, g := range geometries {
		n := 16 + 2*g.Half
		for _, cell := range []int{math.MinInt, -1, 0, 1, 15, 16, n - 1, n, n + 1, n + 15, 16 * pagesOf(g), api.Wrap, math.MaxInt} {
			_, s, _, _ := begun(t, g)
			for _, v := range values {
				what := fmt.Sprint(g, " cell ", cell, " is ", v)
				was, mayBe := s.Get(cell), cell >= 0 && cell < n && v >= 0 && v < api.Wrap
				want(t, what+": Set", s.Set(cell, v), mayBe)
				if mayBe {
					was = v
				}
				want(t, what+": Get", s.Get(cell), was)
			}
			want(t, fmt.Sprint(g, cell, ": All"), len(s.All()), n)
		}
	}
}

func TestP903Changed(t *testing.T) {
	_, s, _, _ := begun(t, least)
	for _, cell := range []int{31, 0, 20, 1, 16} {
		s.Set(cell, 40+cell)
	}
	want(t, "rising", fmt.Sprint(s.Changed()), "[{0 40} {1 41} {16 56} {20 60} {31 71}]")
	s.Set(1, 16)
	s.Set(20, 0)
	s.Set(31, 5)
	want(t, "as committed again", fmt.Sprint(s.Changed()), "[{0 40} {16 56} {31 5}]")
	s.Set(0, -1)
	s.Set(32, 1)
	want(t, "what may not be", fmt.Sprint(s.Changed()), "[{0 40} {16 56} {31 5}]")
	s.Abort()
	want(t, "aborted", fmt.Sprint(s.Changed(), s.Get(0), s.Get(1), s.Get(31)), "[] 0 16 0")
	s.Abort()
	want(t, "aborted twice", fmt.Sprint(s.Changed()), "[]")
}

// TestP903Uncommitted: what was not committed does not outlast anything.
func TestP903Uncommitted(t *testing.T) {
	d, s, _, _ := begun(t, least)
	s.Set(20, 7)
	s.Set(21, 8)
	s.Mark()
	want(t, "opened beside it", opened(t, d).Get(20), 0)
	d.Crash()
	want(t, "behind a fall", opened(t, d).Get(21), 0)
}

func TestP903SharesNothing(t *testing.T) {
	_, s, _, _ := begun(t, least)
	s.Set(20, 7)
	s.All()[20] = 9
	s.Changed()[0] = api.Change{Cell: 21, Value: 9}
	want(t, "what was told, and turned", fmt.Sprint(s.Get(20), s.Get(21), s.Changed()), "7 0 [{20 7}]")
	all, changed := s.All(), s.Changed()
	s.Set(20, 8)
	s.Set(21, 8)
	s.Commit()
	want(t, "what was told, and went on", fmt.Sprint(all[20], all[21], changed), "7 0 [{20 7}]")
	all = s.All()
	_ = append(all[:31], 77)
	want(t, "one more", s.Get(31), 0)
}

// TestP903NoPowerYetUntold: the store is Off when a deed tells it, not ahead of that.
func TestP903NoPowerYetUntold(t *testing.T) {
	d, s, x, _ := begun(t, least)
	d.Crash()
	want(t, "of nothing", fmt.Sprint(s.Commit(), s.Off()), "0 false")
	for cell := range 4 {
		s.Set(cell+16, 7)
	}
	want(t, "too many", fmt.Sprint(s.Commit(), s.Off(), len(s.Changed())), fmt.Sprint(api.ErrLog, " false 4"))
	s.Set(16, 0)
	want(t, "just enough", fmt.Sprint(s.Commit(), s.Off(), s.Changed()), fmt.Sprint(api.ErrOff, " true []"))
	want(t, "of nothing, Off", s.Commit(), api.ErrOff)
	for cell := range 4 {
		s.Set(cell+16, 7)
	}
	want(t, "too many, Off", s.Commit(), api.ErrOff)
	ended(t, "Off", d, s, x)
	want(t, "the crown", s.Super(), x.super)
	want(t, "the room", s.Room(), 4)
	d.Power()
	ended(t, "power again", d, s, x)
	want(t, "opened anew", opened(t, d).Off(), false)
}

// TestP903PowerBetween: a fall of which the store does nothing takes nothing, as nothing waits.
func TestP903PowerBetween(t *testing.T) {
	d, s, _, _ := begun(t, least)
	s.Set(20, 7)
	s.Commit()
	s.Set(21, 8)
	d.Crash()
	d.Power()
	want(t, "Commit", fmt.Sprint(s.Commit(), s.Off(), s.Get(20), s.Get(21)), "0 false 7 8")
	d.Crash()
	y := opened(t, d)
	want(t, "opened anew", fmt.Sprint(y.Get(20), y.Get(21)), "7 8")
}

func TestP903TooMany(t *testing.T) {
	for _, log := range []int{4, 5, 9, 300} {
		g := api.Geo{Half: api.MaxHalf, Log: log}
		for _, n := range []int{log - 2, log - 1, log, log + 1} {
			for _, ahead := range []int{0, 1, log - 2} {
				d, s, x, sectors := begun(t, g)
				x.turn(s, 0, ahead)
				l, _ := x.commit()
				s.Commit()
				x.turn(s, 1, n)
				m, wanted := x.commit()
				what := fmt.Sprintf("%d changes behind %d, of %d", n, ahead, log)
				want(t, what, wanted == api.OK, n <= log-1)
				want(t, what, s.Commit(), wanted)
				check(t, what, d, s, x, done(done(sectors, l), m))
			}
		}
	}
}

// TestP904Limits: nothing is done, and what is working stays.
func TestP904Limits(t *testing.T) {
	for _, c := range []struct {
		what             string
		seq, head, epoch int
	}{
		{"Seq", limit - 1, 5, 3}, {"Epoch", 7, 5, limit - 1}, {"Head", 7, limit - 2, 3}, {"all", limit - 1, limit - 2, limit - 1},
	} {
		x := of(least, c.seq, c.head, c.epoch)
		d := laid(x, 18, nil)
		l := x.mark()
		sectors := done(shown(d), l)
		s := opened(t, d)
		check(t, c.what+", opened", d, s, x, sectors)
		x.turn(s, 0, 2)
		l, _ = x.commit()
		want(t, c.what+": Commit", s.Commit(), api.OK)
		x.turn(s, 1, 3)
		deeds := d.Deeds()
		for range 2 {
			want(t, c.what+": Mark", s.Mark(), api.ErrLog)
			want(t, c.what+": Commit that needs one", s.Commit(), api.ErrLog)
			check(t, c.what, d, s, x, done(sectors, l))
		}
		want(t, c.what+": deeds", d.Deeds(), deeds)
		d.Crash()
		want(t, c.what+": Mark without power", s.Mark(), api.ErrLog)
		want(t, c.what+": Commit without power", s.Commit(), api.ErrLog)
		want(t, c.what+": Off", s.Off(), false)
	}
}

// TestP904LimitsBehindOff: a store that is Off tells that ahead of all.
func TestP904LimitsBehindOff(t *testing.T) {
	x := of(least, limit-1, 5, 3)
	d := laid(x, 18, nil)
	s := opened(t, d)
	d.Crash()
	s.Set(20, 7)
	want(t, "Mark ahead of it", s.Mark(), api.ErrLog)
	want(t, "Commit", s.Commit(), api.ErrOff)
	want(t, "Mark behind it", s.Mark(), api.ErrOff)
}

func TestP904MarkWithoutPower(t *testing.T) {
	d, s, x, _ := begun(t, least)
	x.turn(s, 0, 2)
	x.commit()
	s.Commit()
	s.Set(20, 7)
	d.Crash()
	want(t, "Mark", s.Mark(), api.ErrOff)
	ended(t, "Mark", d, s, x)
	want(t, "the crown", s.Super(), x.super)
	want(t, "the room", s.Room(), 1)
}

func TestP904CrownIsRight(t *testing.T) {
	d, s, _, _ := begun(t, api.Geo{Half: 11, Log: 7})
	for i := range 30 {
		s.Set(20, i+1)
		s.Commit()
		s.Mark()
		a, _ := d.Read(0)
		b, _ := d.Read(1)
		newer, _, is := crown.Newer(a, b)
		want(t, "the newer one", is && newer == s.Super(), true)
		want(t, "Seq", newer.Seq, 3+i)
	}
}

func TestP904Nil(t *testing.T) {
	for what, s := range map[string]*store.Store{"nil": nil, "zero": {}} {
		for _, cell := range []int{math.MinInt, -1, 0, 1, 16, math.MaxInt} {
			want(t, what+": Get", s.Get(cell), 0)
			want(t, what+": Set", s.Set(cell, 1), false)
		}
		for range 2 {
			s.Abort()
			want(t, what+": Commit", s.Commit(), api.ErrArg)
			want(t, what+": Mark", s.Mark(), api.ErrArg)
			want(t, what, fmt.Sprint(len(s.Changed()), s.Geo(), s.Super(), s.Room(), s.Off(), len(s.All())), "0 {0 0} {0 0 0 0 0} 0 true 0")
		}
	}
}
