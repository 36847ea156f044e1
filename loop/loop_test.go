package loop_test

import (
	"fmt"
	"math"
	"math/big"
	"slices"
	"strings"
	"testing"

	"flitting/api"
	"flitting/entry"
	"flitting/loop"
	"flitting/sector"
)

func want[T comparable](t *testing.T, what string, got, wanted T) {
	t.Helper()
	if got != wanted {
		t.Errorf("%s: %v, not %v", what, got, wanted)
	}
}

// limit is what Lsns and epochs are below; mark is a sector that is no entry.
const limit = 1_000_000_000

var mark = strings.Repeat("x", api.Sector)

// listed are so many changes that may be, no two the same.
func listed(n int) []api.Change {
	l := make([]api.Change, n)
	for i := range l {
		l[i] = api.Change{Cell: 1000 - i, Value: api.Wrap - 1 - 7*i}
	}
	return l
}

// grouped are the entries of changes, by the document's words.
func grouped(lsn, epoch int, l []api.Change) []api.Entry {
	var g []api.Entry
	for _, c := range l {
		g = append(g, api.Entry{Kind: 1, Lsn: lsn, Epoch: epoch, Cell: c.Cell, Value: c.Value})
		lsn++
	}
	return append(g, api.Entry{Kind: 2, Lsn: lsn, Epoch: epoch, Cell: len(l)})
}

// bytesOf is the sector of an entry.
func bytesOf(t *testing.T, e api.Entry) string {
	t.Helper()
	b, is := entry.Put(e)
	if !is {
		t.Fatalf("%+v may not be", e)
	}
	return b
}

// marked is a disk of which each sector is a mark, that lasts.
func marked(n int) *sector.Disk {
	d := sector.New(n)
	for k := range n {
		d.Write(k, mark)
	}
	d.Barrier()
	return d
}

// shown are all sectors of a disk.
func shown(d *sector.Disk) []string {
	l := make([]string, d.Len())
	for k := range l {
		l[k], _ = d.Read(k)
	}
	return l
}

// tells is what a log tells of itself, scanned what a disk tells of one.
func tells(l *loop.Loop) string { return fmt.Sprint(l.Head(), l.Next(), l.Room()) }

func scanned(d *sector.Disk, from, n, head, epoch int) string {
	c, next, errno := loop.Scan(d, from, n, head, epoch)
	return fmt.Sprint(c, next, errno)
}

// made is a log that must be there.
func made(t *testing.T, d *sector.Disk, from, n, head, next, epoch int) *loop.Loop {
	t.Helper()
	l := loop.New(d, from, n, head, next, epoch)
	if l == nil {
		t.Fatalf("New(%d sectors, %d, %d, %d, %d, %d): nil", d.Len(), from, n, head, next, epoch)
	}
	return l
}

// mayBe is New's rule, by numbers that have no end.
func mayBe(sectors, from, n, head, next, epoch int) bool {
	sum := func(a, b int) *big.Int { return new(big.Int).Add(big.NewInt(int64(a)), big.NewInt(int64(b))) }
	there := from >= 0 && sum(from, n).Cmp(big.NewInt(int64(sectors))) <= 0
	behind := next >= head && sum(head, n).Cmp(big.NewInt(int64(next))) >= 0
	return there && n >= 1 && head >= 0 && behind && epoch >= 0 && next < limit && epoch < limit
}

// edges are numbers about some, and the ends of all.
func edges(about ...int) []int {
	l := []int{math.MinInt, -1, 0, 1, math.MaxInt - 1, math.MaxInt}
	for _, v := range about {
		l = append(l, v-1, v, v+1)
	}
	slices.Sort(l)
	return slices.Compact(l)
}

func TestP701New(t *testing.T) {
	const sectors = 10
	d, seen := sector.New(sectors), 0
	for _, from := range edges(sectors) {
		for _, n := range edges(3, sectors) {
			for _, head := range edges(5, limit) {
				for _, next := range append(edges(5, 8, limit), head-1, head+1, head+n-1, head+n, head+n+1) {
					for _, epoch := range edges(limit) {
						what := fmt.Sprint("New ", from, n, head, next, epoch)
						l := loop.New(d, from, n, head, next, epoch)
						want(t, what, l != nil, mayBe(sectors, from, n, head, next, epoch))
						if l != nil {
							want(t, what, tells(l), fmt.Sprint(head, next, n-(next-head)))
							seen++
						}
					}
				}
			}
		}
	}
	want(t, "enough that may be", seen > 100, true)
	want(t, "nothing is done", fmt.Sprint(d.Deeds(), d.Waits()), "0 0")
}

func TestP701NewOfOtherDisks(t *testing.T) {
	for what, d := range map[string]*sector.Disk{"nil": nil, "zero": {}, "no sectors": sector.New(0)} {
		for _, from := range edges() {
			for _, n := range edges() {
				want(t, fmt.Sprint(what, from, n), loop.New(d, from, n, 0, 0, 0) == nil, true)
			}
		}
	}
	d := sector.New(4)
	d.Crash()
	want(t, "no power", tells(made(t, d, 1, 3, 7, 8, 2)), "7 8 2")
	want(t, "all that a disk has", tells(made(t, sector.New(3000), 0, 3000, 0, 0, 0)), "0 0 3000")
}

// TestP701Places looks at each sector of a disk behind an Append.
func TestP701Places(t *testing.T) {
	const sectors = 9
	for from := range sectors {
		for n := 1; from+n <= sectors; n++ {
			for _, next := range []int{0, 1, 2, n - 1, n, n + 1, 258, limit - 7, limit - 1} {
				for k := range n {
					d := marked(sectors)
					l := made(t, d, from, n, next, next, 3)
					what := fmt.Sprintf("%d changes in %d from %d on, Next %d", k, n, from, next)
					want(t, what, l.Append(listed(k)...), api.OK)
					wanted := shown(marked(sectors))
					for _, e := range grouped(next, 3, listed(k)) {
						wanted[from+e.Lsn%n] = bytesOf(t, e)
					}
					want(t, what, strings.Join(shown(d), ""), strings.Join(wanted, ""))
					want(t, what, tells(l), fmt.Sprint(next, next+k+1, n-k-1))
				}
			}
		}
	}
}

// TestP701AppendBehindWhatIsThere: from Next on, not from Head on.
func TestP701AppendBehindWhatIsThere(t *testing.T) {
	d := marked(8)
	l := made(t, d, 2, 5, 11, 14, 6)
	want(t, "Append", l.Append(api.Change{Cell: 4, Value: 5}), api.OK)
	want(t, "told", tells(l), "11 16 0")
	wanted := shown(marked(8))
	wanted[2+14%5] = bytesOf(t, api.Entry{Kind: 1, Lsn: 14, Epoch: 6, Cell: 4, Value: 5})
	wanted[2+15%5] = bytesOf(t, api.Entry{Kind: 2, Lsn: 15, Epoch: 6, Cell: 1})
	want(t, "sectors", strings.Join(shown(d), ""), strings.Join(wanted, ""))
}

func TestP701AppendLasts(t *testing.T) {
	d := sector.New(6)
	l := made(t, d, 0, 6, 0, 0, 1)
	want(t, "Append", l.Append(listed(2)...), api.OK)
	want(t, "three Writes and a Barrier", fmt.Sprint(d.Deeds(), d.Waits()), "4 0")
	want(t, "Append of none", l.Append(), api.OK)
	want(t, "a Write and a Barrier", fmt.Sprint(d.Deeds(), d.Waits()), "6 0")
	d.Crash()
	d.Power()
	want(t, "Scan", scanned(d, 0, 6, 0, 1), fmt.Sprint(listed(2), 4, 0))
}

// TestP701OrderOfWrites lets the power go at each deed of an Append, and keeps all writes that there were: those of the first Lsns.
func TestP701OrderOfWrites(t *testing.T) {
	group := grouped(8, 2, listed(3))
	for k := range len(group) + 1 {
		d := marked(7)
		l := made(t, d, 1, 5, 7, 8, 2)
		deeds := d.Deeds()
		d.Arm(k, 1, 1, 1, 1, 1)
		what := fmt.Sprint("the power goes behind ", k)
		want(t, what, l.Append(listed(3)...), api.ErrOff)
		want(t, what, fmt.Sprint(tells(l), d.On(), d.Deeds()-deeds), fmt.Sprint("7 8 4", false, k))
		d.Power()
		wanted := shown(marked(7))
		for _, e := range group[:min(k+1, len(group))] {
			wanted[1+e.Lsn%5] = bytesOf(t, e)
		}
		want(t, what, strings.Join(shown(d), ""), strings.Join(wanted, ""))
	}
}

func TestP701Room(t *testing.T) {
	for n := 1; n <= 7; n++ {
		for used := range n + 1 {
			for k := range n + 3 {
				d := marked(n)
				l := made(t, d, 0, n, 4, 4+used, 1)
				what := fmt.Sprintf("%d changes where %d of %d are used", k, used, n)
				want(t, what, l.Room(), n-used)
				deeds := d.Deeds()
				if n-used >= k+1 {
					want(t, what, l.Append(listed(k)...), api.OK)
					want(t, what, tells(l), fmt.Sprint(4, 4+used+k+1, n-used-k-1))
					continue
				}
				want(t, what, l.Append(listed(k)...), api.ErrLog)
				want(t, what, tells(l), fmt.Sprint(4, 4+used, n-used))
				want(t, what, fmt.Sprint(d.Deeds(), d.Waits(), strings.Join(shown(d), "")), fmt.Sprint(deeds, 0, strings.Join(shown(marked(n)), "")))
			}
		}
	}
	l := made(t, sector.New(4), 0, 4, 0, 0, 0)
	want(t, "far too many", l.Append(make([]api.Change, 5000)...), api.ErrLog)
}

func TestP701AppendOfEdges(t *testing.T) {
	for _, v := range []int{0, 1, 255, 65_536, 1 << 31, api.Wrap - 2, api.Wrap - 1} {
		for _, c := range []api.Change{{Cell: v}, {Value: v}, {Cell: v, Value: v}} {
			d := sector.New(4)
			want(t, fmt.Sprint(c), made(t, d, 0, 4, 0, 0, 0).Append(c), api.OK)
			want(t, fmt.Sprint(c), scanned(d, 0, 4, 0, 0), fmt.Sprint([]api.Change{c}, 2, 0))
		}
	}
}

// wrongs are lists of changes of which one may not be.
func wrongs(n int) [][]api.Change {
	var l [][]api.Change
	for at := range n {
		for _, v := range []int{-1, math.MinInt, api.Wrap, api.Wrap + 20, math.MaxInt} {
			cell, value := listed(n), listed(n)
			cell[at].Cell, value[at].Value = v, v
			l = append(l, cell, value)
		}
	}
	return l
}

func TestP701AppendRefuses(t *testing.T) {
	for n := 1; n < 8; n++ { // from 5 on there is no room either
		for _, c := range wrongs(n) {
			d := sector.New(5)
			l := made(t, d, 0, 5, 0, 0, 1)
			d.Arm(0, 1)
			want(t, fmt.Sprint(c), l.Append(c...), api.ErrArg)
			want(t, fmt.Sprint("nothing is done of ", c), fmt.Sprint(tells(l), d.On(), d.Deeds(), d.Waits()), fmt.Sprint("0 0 5", true, 0, 0))
			d.Crash()
			want(t, fmt.Sprint("no power, ", c), l.Append(c...), api.ErrArg)
		}
	}
	d := sector.New(5)
	l := made(t, d, 0, 5, 0, 0, 1)
	d.Arm(0, 1)
	want(t, "no room", l.Append(listed(5)...), api.ErrLog)
	want(t, "it was no deed", d.On(), true)
	d.Crash()
	want(t, "no room, no power", l.Append(listed(5)...), api.ErrLog)
	want(t, "no power", l.Append(listed(4)...), api.ErrOff)
	want(t, "no power, none", l.Append(), api.ErrOff)
	want(t, "as it was", tells(l), "0 0 5")
	d.Power()
	want(t, "power again", l.Append(listed(4)...), api.OK)
	want(t, "Scan", scanned(d, 0, 5, 0, 1), fmt.Sprint(listed(4), 5, 0))
}

// TestP701AppendHasNoOtherEnd: New asks for a Next below the limit, and nothing asks Append for one.
func TestP701AppendHasNoOtherEnd(t *testing.T) {
	d := sector.New(6)
	l := made(t, d, 0, 6, limit-1, limit-1, limit-2)
	want(t, "Append", l.Append(listed(2)...), api.OK)
	want(t, "behind it", tells(l), fmt.Sprint(limit-1, limit+2, 3))
	want(t, "Scan", scanned(d, 0, 6, limit-1, limit-2), fmt.Sprint(listed(2), limit+2, 0))
	want(t, "Cut", l.Cut(limit-1), api.OK)
	want(t, "and Append", l.Append(listed(5)...), api.OK)
	want(t, "behind that", tells(l), fmt.Sprint(limit+2, limit+8, 0))
}

func TestP701Cut(t *testing.T) {
	for _, epoch := range []int{0, 1, 7, limit - 2, limit - 1} {
		for _, to := range append(edges(epoch, limit), epoch+1000) {
			d := sector.New(5)
			l := made(t, d, 0, 5, 2, 2, epoch)
			l.Append(listed(2)...)
			deeds, sectors := d.Deeds(), strings.Join(shown(d), "")
			what := fmt.Sprintf("Cut of %d, %d", epoch, to)
			if to <= epoch || to >= limit {
				want(t, what, l.Cut(to), api.ErrArg)
				want(t, what, tells(l), "2 5 2")
				want(t, what, l.Append(), api.OK)
				want(t, what, scanned(d, 0, 5, 2, epoch), fmt.Sprint(listed(2), 6, 0))
				continue
			}
			want(t, what, l.Cut(to), api.OK)
			want(t, what, tells(l), "5 5 5")
			want(t, what, fmt.Sprint(d.Deeds(), strings.Join(shown(d), "")), fmt.Sprint(deeds, sectors))
			want(t, what, scanned(d, 0, 5, 5, to), fmt.Sprint([]api.Change(nil), 5, 0))
			want(t, what, l.Append(listed(1)...), api.OK)
			want(t, what, scanned(d, 0, 5, 5, to), fmt.Sprint(listed(1), 7, 0))
		}
	}
	l := made(t, sector.New(5), 0, 5, 9, 9, 1)
	want(t, "of nothing", l.Cut(4), api.OK)
	want(t, "as it was", tells(l), "9 9 5")
	want(t, "the same again", l.Cut(4), api.ErrArg)
	want(t, "one more", l.Cut(5), api.OK)
}

func TestP701CutWithoutPower(t *testing.T) {
	d := sector.New(5)
	l := made(t, d, 0, 5, 0, 3, 1)
	d.Crash()
	want(t, "Cut", l.Cut(2), api.OK)
	want(t, "told", tells(l), "3 3 5")
}

func TestP701Nil(t *testing.T) {
	for what, l := range map[string]*loop.Loop{"nil": nil, "zero": {}} {
		want(t, what, l.Append(), api.ErrArg)
		want(t, what, l.Append(listed(2)...), api.ErrArg)
		for _, epoch := range edges(limit) {
			want(t, what, l.Cut(epoch), api.ErrArg)
		}
		want(t, what, tells(l), "0 0 0")
	}
}

func TestP701KeepsToItsOwn(t *testing.T) {
	d, c := sector.New(6), listed(3)
	l := made(t, d, 0, 6, 0, 0, 1)
	l.Append(c...)
	want(t, "what was handed in", fmt.Sprint(c), fmt.Sprint(listed(3)))
	c[0] = api.Change{}
	first, _, _ := loop.Scan(d, 0, 6, 0, 1)
	want(t, "and turned then", fmt.Sprint(first), fmt.Sprint(listed(3)))
	first[1] = api.Change{}
	want(t, "what was told, and turned", scanned(d, 0, 6, 0, 1), fmt.Sprint(listed(3), 4, 0))
}

func TestP702ScanRefuses(t *testing.T) {
	const sectors = 10
	d := sector.New(sectors)
	for _, from := range edges(sectors) {
		for _, n := range edges(3, sectors) {
			for _, head := range edges(5, limit) {
				for _, epoch := range edges(limit) {
					wanted := fmt.Sprint([]api.Change(nil), 0, api.ErrArg)
					if mayBe(sectors, from, n, head, head, epoch) {
						wanted = fmt.Sprint([]api.Change(nil), head, api.OK)
					}
					want(t, fmt.Sprint("Scan ", from, n, head, epoch), scanned(d, from, n, head, epoch), wanted)
				}
			}
		}
	}
	for what, d := range map[string]*sector.Disk{"nil": nil, "zero": {}, "no sectors": sector.New(0)} {
		want(t, what, scanned(d, 0, 1, 0, 0), "[] 0 1")
		want(t, what, scanned(d, 0, 0, 0, 0), "[] 0 1")
	}
}

func TestP702ScanWithoutPower(t *testing.T) {
	d := sector.New(4)
	made(t, d, 0, 4, 0, 0, 1).Append(listed(1)...)
	d.Crash()
	want(t, "no power", scanned(d, 0, 4, 0, 1), "[] 0 3")
	want(t, "no power, at the end", scanned(d, 0, 4, 2, 1), "[] 0 3")
	want(t, "no power, and may not be", scanned(d, 0, 5, 0, 1), "[] 0 1")
}

// lay writes what must be written.
func lay(t *testing.T, d *sector.Disk, k int, b string) {
	t.Helper()
	want(t, fmt.Sprint("Write ", k), d.Write(k, b), api.OK)
}

// laid is a disk on which entries lie, each in the place of its Lsn.
func laid(t *testing.T, sectors, from, n int, l ...api.Entry) *sector.Disk {
	t.Helper()
	d := marked(sectors)
	for _, e := range l {
		lay(t, d, from+e.Lsn%n, bytesOf(t, e))
	}
	return d
}

func TestP702Scan(t *testing.T) {
	const from, n, epoch = 2, 6, 4
	for _, head := range []int{0, 1, 5, 6, 7, 258, limit - 1} {
		change := func(i int) api.Entry {
			return api.Entry{Kind: 1, Lsn: head + i, Epoch: epoch, Cell: 20 + i, Value: 30 + i}
		}
		commit := func(i, cell int) api.Entry { return api.Entry{Kind: 2, Lsn: head + i, Epoch: epoch, Cell: cell} }
		for _, x := range []struct {
			what   string
			l      []api.Entry
			wanted string
			behind int
		}{
			{"nothing", nil, "[]", 0},
			{"a group", []api.Entry{change(0), change(1), commit(2, 2)}, "[{20 30} {21 31}]", 3},
			{"a group of none", []api.Entry{commit(0, 0)}, "[]", 1},
			{"two groups", []api.Entry{change(0), commit(1, 1), change(2), change(3), commit(4, 2)}, "[{20 30} {22 32} {23 33}]", 5},
			{"all", []api.Entry{change(0), change(1), change(2), change(3), change(4), commit(5, 5)}, "[{20 30} {21 31} {22 32} {23 33} {24 34}]", 6},
			{"all, without a commit", []api.Entry{change(0), change(1), change(2), change(3), change(4), change(5)}, "[]", 0},
			{"no commit", []api.Entry{change(0), commit(1, 1), change(2), change(3)}, "[{20 30}]", 2},
			{"a commit of others", []api.Entry{change(0), commit(1, 1), change(2), change(3), commit(4, 3)}, "[{20 30}]", 2},
			{"the first one lacks", []api.Entry{change(1), commit(2, 1)}, "[]", 0},
			{"one between lacks", []api.Entry{change(0), commit(1, 1), change(3), commit(4, 1)}, "[{20 30}]", 2},
			{"groups of none", []api.Entry{commit(0, 0), commit(1, 0), change(2), commit(3, 1), commit(4, 0)}, "[{22 32}]", 5},
		} {
			d := laid(t, 9, from, n, x.l...)
			want(t, fmt.Sprint(x.what, ", head ", head), scanned(d, from, n, head, epoch), fmt.Sprintf("%s %d 0", x.wanted, head+x.behind))
		}
	}
}

// turned is bytes of which one is another one.
func turned(b string, k int) string {
	l := []byte(b)
	l[k] ^= 1
	return string(l)
}

// TestP702ScanEndsAtOthers puts into each sector of a whole log what does not go on there.
func TestP702ScanEndsAtOthers(t *testing.T) {
	const from, n, head, epoch = 1, 6, 40, 4
	whole := append(grouped(head, epoch, listed(2)), grouped(head+3, epoch, listed(2))...)
	for at, e := range whole {
		wanted := fmt.Sprint([]api.Change(nil), head, 0)
		if at >= 3 {
			wanted = fmt.Sprint(listed(2), head+3, 0)
		}
		for _, by := range []struct{ lsn, epoch int }{{-n, 0}, {n, 0}, {-1, 0}, {1, 0}, {-2 * n, 0}, {0, -1}, {0, 1}, {0, -4}, {n, -1}, {-n, 1}} {
			other := e
			other.Lsn, other.Epoch = e.Lsn+by.lsn, e.Epoch+by.epoch
			d := laid(t, 8, from, n, whole...)
			lay(t, d, from+e.Lsn%n, bytesOf(t, other))
			want(t, fmt.Sprintf("%+v in place of %+v", other, e), scanned(d, from, n, head, epoch), wanted)
		}
		b := bytesOf(t, e)
		for k := range b {
			d := laid(t, 8, from, n, whole...)
			lay(t, d, from+e.Lsn%n, turned(b, k))
			want(t, fmt.Sprintf("byte %d of %+v turned", k, e), scanned(d, from, n, head, epoch), wanted)
		}
		for _, b := range []string{mark, strings.Repeat("\x00", api.Sector)} {
			d := laid(t, 8, from, n, whole...)
			lay(t, d, from+e.Lsn%n, b)
			want(t, fmt.Sprintf("%q in place of %+v", b, e), scanned(d, from, n, head, epoch), wanted)
		}
	}
}

// TestP702ScanAtMostOnce: what goes on behind the last sector is the first one, and counts once.
func TestP702ScanAtMostOnce(t *testing.T) {
	for n := 1; n <= 6; n++ {
		d := sector.New(n)
		l := made(t, d, 0, n, 3, 3, 1)
		for range n {
			l.Append()
		}
		want(t, fmt.Sprint(n, " groups of none"), scanned(d, 0, n, 3, 1), fmt.Sprint([]api.Change(nil), 3+n, 0))
		want(t, "full", tells(l), fmt.Sprint(3, 3+n, 0))
	}
}

func TestP702ScanFromWithin(t *testing.T) {
	d := sector.New(8)
	l := made(t, d, 0, 8, 0, 0, 1)
	l.Append(listed(2)...)
	l.Append(listed(1)...)
	for head, wanted := range []string{
		fmt.Sprint(append(listed(2), listed(1)...), 5, 0), "[] 1 0", "[] 2 0",
		fmt.Sprint(listed(1), 5, 0), "[] 4 0", "[] 5 0", "[] 6 0",
	} {
		want(t, fmt.Sprint("from ", head, " on"), scanned(d, 0, 8, head, 1), wanted)
	}
}

func TestP702ScanTurnsNothing(t *testing.T) {
	d := marked(8)
	made(t, d, 0, 8, 0, 0, 1).Append(listed(2)...)
	d.Write(7, mark)
	d.Arm(0, 1)
	ahead := fmt.Sprint(shown(d), d.Deeds(), d.Waits(), d.On())
	want(t, "Scan", scanned(d, 0, 8, 0, 1), fmt.Sprint(listed(2), 3, 0))
	want(t, "the disk", fmt.Sprint(shown(d), d.Deeds(), d.Waits(), d.On()), ahead)
}
