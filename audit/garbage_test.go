package audit_test

import (
	"fmt"
	"slices"
	"testing"

	"flitting/alloc"
	"flitting/api"
	"flitting/audit"
	"flitting/field"
	"flitting/gc"
	"flitting/space"
	"flitting/store"
	"flitting/walk"
)

// lies tells where an object lies as things are, and the cell up to which it may go there, by the document's words.
func lies(cells []int, a int) (at, end int, is bool) {
	half := (len(cells) - 16) / 2
	used, left := 16+cells[0]*half, 16+half-cells[0]*half
	if a == 0 || used <= a && a < used+half {
		return a, cells[1], true
	}
	if cells[2] == 0 || a < left || a >= left+half {
		return 0, 0, false
	}
	if to := cells[a] - 33_554_432; used <= to && to < used+half {
		return to, cells[1], true
	}
	f, is := forms[cells[a]]
	return a, left + half, is && a+f.size() <= left+half
}

// askedGarbage is what Garbage must tell, by the document's words.
func askedGarbage(cells []int) int {
	if len(cells) == 0 || !isRight(cells) {
		return 0
	}
	var met []int
	meet := func(refs []int) bool {
		for _, ref := range refs {
			at, _, is := lies(cells, ref)
			if !is {
				return false
			}
			if at != 0 && !slices.Contains(met, at) {
				met = append(met, at)
			}
		}
		return true
	}
	sound := meet(cells[8:16])
	isReached := make([]bool, len(cells))
	for k := 0; sound && k < len(met); k++ {
		at := met[k]
		f, is := forms[cells[at]]
		if _, end, _ := lies(cells, at); !is || at+f.size() > end {
			return 0
		}
		sound = meet(cells[at+1 : at+1+f.slots])
		for i := range f.size() {
			isReached[at+i] = true
		}
	}
	n := 0
	for at := 16 + cells[0]*(len(cells)-16)/2; sound && at < cells[1]; at++ {
		if !isReached[at] {
			n++
		}
	}
	return n
}

// askedMoved is what Moved must tell, by the document's words.
func askedMoved(cells []int) int {
	if len(cells) == 0 || cells[2] != 1 {
		return 0
	}
	l, _ := laid(cells)
	return len(l)
}

func TestP1802Examples(t *testing.T) {
	_, s := made(t, api.Geo{Half: 30, Log: 60})
	want(t, "formatted", hold(t, "formatted", s), answer{})
	alloc.New(s, 1, 1)
	alloc.New(s, 0, 2)
	want(t, "no root", hold(t, "no root", s), answer{api.OK, 6, 0})
	field.SetRoot(s, 5, 19)
	want(t, "one is a root", hold(t, "one is a root", s), answer{api.OK, 3, 0})
	field.SetRoot(s, 4, 16)
	want(t, "both are", hold(t, "both are", s), answer{api.OK, 0, 0})
	field.SetRoot(s, 5, 0)
	field.Put(s, 16, 0, 16)
	want(t, "the other one is", hold(t, "the other one is", s), answer{api.OK, 3, 0})
	field.Put(s, 16, 0, 19)
	want(t, "it names the one", hold(t, "it names the one", s), answer{api.OK, 0, 0})
	want(t, "few", hold(t, "few", few(t)), answer{api.OK, 3, 0})
}

// TestP1802WhatIsNotReached asks, for each choice of roots among objects that name others, how many cells are left.
func TestP1802WhatIsNotReached(t *testing.T) {
	_, s := made(t, api.Geo{Half: 30, Log: 60})
	sizes := []int{2, 4, 3, 1, 5, 2}
	for _, f := range []form{{1, 0}, {2, 1}, {0, 2}, {0, 0}, {1, 3}, {1, 0}} {
		alloc.New(s, f.slots, f.words)
	}
	places := []int{16, 18, 22, 25, 26, 31}
	fill(s, 17, 18)     // 0 names 1
	fill(s, 19, 22, 16) // 1 names 2 and 0
	fill(s, 27, 31)     // 4 names 5
	fill(s, 32, 31)     // 5 names itself
	reached := [][]int{{0, 1, 2}, {0, 1, 2}, {2}, {3}, {4, 5}, {5}}
	for choice := range 64 {
		isReached := map[int]bool{}
		for k := range 6 {
			fill(s, 8+k, 0)
			if choice>>k&1 == 1 {
				fill(s, 8+k, places[k])
				for _, n := range reached[k] {
					isReached[n] = true
				}
			}
		}
		garbage := 17
		for n := range isReached {
			garbage -= sizes[n]
		}
		what := fmt.Sprintf("choice %06b", choice)
		want(t, what, hold(t, what, s), answer{api.OK, garbage, 0})
		want(t, what+": Used", garbage+walk.Live(s), space.Used(s))
	}
}

// TestP1802WhereThereIsAnError asks that there are none, if what is reached can't be read, however much is not reached; and that what is not reached may be as it likes.
func TestP1802WhereThereIsAnError(t *testing.T) {
	for _, v := range []int{1, 15, 17, 19, 27, 45, 46, 76, api.Wrap - 1} {
		for cell := 8; cell < 19; cell++ {
			s := few(t)
			fill(s, cell, v)
			want(t, fmt.Sprintf("the cell %d is %d", cell, v), hold(t, "an error", s), answer{api.ErrCorrupt, 0, 0})
		}
		s := few(t)
		fill(s, 26, v)
		want(t, fmt.Sprintf("what is not reached is %d", v), hold(t, "not reached", s), answer{api.ErrCorrupt, 3, 0})
		fill(s, 25, v)
		want(t, fmt.Sprintf("what is not reached is %d", v), hold(t, "not reached", s), answer{api.ErrCorrupt, 3, 0})
		put(s, space.Control{Free: 30})
		want(t, "an object may pass Free", hold(t, "passes Free", s), answer{api.ErrCorrupt, 6, 0})
		put(s, space.Control{Free: 24})
		want(t, "one that is reached may not", hold(t, "passes Free", s), answer{api.ErrCorrupt, 0, 0})
	}
	s := few(t)
	for _, c := range []space.Control{{Free: 5}, {Free: 47}, {Space: 1, Free: 27}, {Space: 2, Free: 27}, {Free: 27, Scan: 16}, {Free: 27, Gc: 1}, {Free: 27, Gc: 1, Scan: 28}, {Free: 27, Gc: 2, Scan: 16}, {Free: 27, Gc: 2}} {
		put(s, c)
		want(t, fmt.Sprintf("%+v", c), hold(t, "the control", s), answer{errno: api.ErrCorrupt})
	}
}

// TestP1802OneInsideAnother asks that a cell that several objects have is reached once.
func TestP1802OneInsideAnother(t *testing.T) {
	_, s := made(t, api.Geo{Half: 30, Log: 60})
	put(s, space.Control{Free: 24})
	fill(s, 16, form{0, 4}.header(), form{0, 2}.header(), form{0, 4}.header(), 0, 0, form{0, 2}.header())
	for _, c := range []struct {
		roots   []int
		garbage int
	}{{[]int{16}, 3}, {[]int{17}, 5}, {[]int{16, 17}, 3}, {[]int{17, 18}, 2}, {[]int{18, 16}, 1}, {[]int{16, 17, 18, 21}, 0}} {
		fill(s, 8, append(slices.Clone(c.roots), make([]int, 8-len(c.roots))...)...)
		hold(t, fmt.Sprint(c.roots), s)
		want(t, fmt.Sprint(c.roots), audit.Garbage(s), c.garbage)
	}
}

// TestP1802WhatLiesInTheOtherHalf asks that what is reached there is none of the cells of the half in use, and that what moved is reached where it is.
func TestP1802WhatLiesInTheOtherHalf(t *testing.T) {
	for no := range 2 {
		s, base, left := half(t, no)
		what := fmt.Sprintf("half %d", no)
		want(t, what, hold(t, what, s), answer{api.OK, 0, 3})
		fill(s, 9, 0)
		want(t, what+", a root less", hold(t, what, s), answer{api.OK, 2, 3})
		fill(s, base+1, 0)
		want(t, what+", a slot less", hold(t, what, s), answer{api.OK, 6, 3})
		fill(s, base, form{1, 1}.header(), left+9)
		fill(s, left+4, form{2, 0}.header(), base+7, left+27)
		put(s, going(s.Geo(), no, 9, 0))
		want(t, what+", by what lies in the other half", hold(t, what, s), answer{api.OK, 0, 3})
		fill(s, base+4, 0)
		want(t, what+", not any more", hold(t, what, s), answer{api.OK, 2, 3})
		fill(s, base+5, base+3)
		want(t, what+", by itself", hold(t, what, s), answer{api.OK, 2, 3})
		fill(s, base+1, 0)
		want(t, what+", one alone", hold(t, what, s), answer{api.OK, 6, 3})
		fill(s, 8, 0)
		want(t, what+", none", hold(t, what, s), answer{api.OK, 9, 3})
		fill(s, 8, left+27)
		want(t, what+", a root that lags behind", hold(t, what, s), answer{api.ErrCorrupt, 9, 3})
	}
}

// TestP1802HowManyMoved asks for the objects up to the first one that is none, if a collection goes on.
func TestP1802HowManyMoved(t *testing.T) {
	g := api.Geo{Half: 30, Log: 60}
	for no := range 2 {
		base := 16 + 30*no
		_, s := made(t, g)
		for k := range 10 {
			fill(s, base+3*k, form{k % 3, 2 - k%3}.header())
		}
		for used := range 31 {
			for scanned := range used + 1 {
				put(s, going(g, no, used, scanned))
				want(t, fmt.Sprintf("half %d, %d used, %d scanned", no, used, scanned), hold(t, "moved", s).moved, used/3)
			}
			put(s, space.Control{Space: no, Free: base + used})
			want(t, fmt.Sprintf("half %d, %d used", no, used), hold(t, "no collection", s).moved, 0)
			put(s, space.Control{Space: no, Free: base + used, Scan: base})
			want(t, fmt.Sprintf("half %d, %d used, Scan without a collection", no, used), hold(t, "Scan", s).moved, 0)
		}
		put(s, going(g, no, 30, 0))
		fill(s, base+12, 0)
		want(t, "up to what is none", hold(t, "none", s).moved, 4)
	}
}

// TestP1802WhileItIsCollected follows both calls through a collection, with what is made and let go meanwhile.
func TestP1802WhileItIsCollected(t *testing.T) {
	s := few(t)
	gc.Start(s)
	want(t, "begun", hold(t, "begun", s), answer{api.OK, 0, 1})
	a, _ := alloc.New(s, 1, 0)
	want(t, "one was made", hold(t, "made", s), answer{api.OK, 2, 2})
	field.Put(s, 46, 1, a)
	want(t, "it is named", hold(t, "named", s), answer{api.OK, 0, 2})
	want(t, "over", over(t, s), false)
	want(t, "what is named was moved", hold(t, "scanned", s), answer{api.OK, 0, 3})
	field.Put(s, 46, 0, 0)
	want(t, "one was let go", hold(t, "let go", s), answer{api.OK, 4, 3})
	for !over(t, s) {
		want(t, "meanwhile", hold(t, "meanwhile", s), answer{api.OK, 4, 3})
	}
	want(t, "behind that", hold(t, "over", s), answer{api.OK, 4, 0})
	gc.All(s)
	want(t, "one more", hold(t, "one more", s), answer{api.OK, 0, 0})
	want(t, "Used", space.Used(s), 6)
}

// over scans one object.
func over(t *testing.T, s *store.Store) bool {
	t.Helper()
	is, e := gc.Step(s, 1)
	want(t, "Step", e, api.OK)
	return is
}
