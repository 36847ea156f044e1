package audit_test

import (
	"fmt"
	"slices"
	"testing"

	"flitting/alloc"
	"flitting/api"
	"flitting/audit"
	"flitting/sector"
	"flitting/space"
	"flitting/store"
)

func want[T comparable](t *testing.T, what string, got, wanted T) {
	t.Helper()
	if got != wanted {
		t.Errorf("%s: %#v, not %#v", what, got, wanted)
	}
}

// same holds lists against each other; one that is nil and one that is empty are the same.
func same(t *testing.T, what string, got, wanted []int) {
	t.Helper()
	if !slices.Equal(got, wanted) {
		t.Errorf("%s: %v, not %v", what, got, wanted)
	}
}

// made is a disk and a store that was formatted.
func made(t *testing.T, g api.Geo) (*sector.Disk, *store.Store) {
	t.Helper()
	d := sector.New(1000)
	want(t, "Format", store.Format(d, g), api.OK)
	return d, opened(t, d)
}

func opened(t *testing.T, d *sector.Disk) *store.Store {
	t.Helper()
	s, e := store.Open(d)
	want(t, "Open", e, api.OK)
	return s
}

// put gives the cells of the control values as they are, whether they may be or not.
func put(s *store.Store, c space.Control) { fill(s, 0, c.Space, c.Free, c.Gc, c.Scan) }

// fill gives the cells from at on values.
func fill(s *store.Store, at int, values ...int) {
	for i, v := range values {
		s.Set(at+i, v)
	}
}

// back gives each cell the value that it had.
func back(s *store.Store, cells []int) {
	for cell, v := range s.All() {
		if v != cells[cell] {
			s.Set(cell, cells[cell])
		}
	}
}

// going is the control of a collection that goes on into a half, in which some cells are used, and some scanned.
func going(g api.Geo, no, used, scanned int) space.Control {
	base := 16 + no*g.Half
	return space.Control{Space: no, Free: base + used, Gc: 1, Scan: base + scanned}
}

// form is how many slots and words an object has.
type form struct{ slots, words int }

func (f form) size() int { return 1 + f.slots + f.words }

func (f form) header() int { return 16_777_216 + 256*f.slots + f.words }

// forms are those of all headers, by the document's words.
var forms = laidForms()

func laidForms() map[int]form {
	m := map[int]form{}
	for slots := 0; slots <= 15; slots++ {
		for words := 0; words <= 30; words++ {
			f := form{slots, words}
			m[f.header()] = f
		}
	}
	return m
}

// isRight tells whether the control of some cells may be, by the document's words.
func isRight(cells []int) bool {
	half := (len(cells) - 16) / 2
	no, free, gc, scan := cells[0], cells[1], cells[2], cells[3]
	if no != 0 && no != 1 {
		return false
	}
	base := 16 + no*half
	return base <= free && free <= base+half && (gc == 0 && scan == 0 || gc == 1 && base <= scan && scan <= free)
}

// laid are the cells of the objects of the half in use, and whether they lie just up to Free, by the document's words.
func laid(cells []int) ([]int, bool) {
	if !isRight(cells) {
		return nil, false
	}
	var l []int
	at, free := 16+cells[0]*(len(cells)-16)/2, cells[1]
	for at < free {
		f, is := forms[cells[at]]
		if !is || at+f.size() > free {
			return l, false
		}
		l = append(l, at)
		at += f.size()
	}
	return l, true
}

// askedCheck is what Check must tell, by the document's words.
func askedCheck(cells []int) api.Errno {
	if len(cells) == 0 {
		return api.ErrArg
	}
	objects, sound := laid(cells)
	if !sound {
		return api.ErrCorrupt
	}
	half := (len(cells) - 16) / 2
	left := 16 + half - cells[0]*half
	isOne := func(a int) bool { return slices.Contains(objects, a) }
	isLeft := func(a int) bool {
		if cells[2] == 0 || a < left || a >= left+half {
			return false
		}
		f, is := forms[cells[a]]
		return is && a+f.size() <= left+half || isOne(cells[a]-33_554_432)
	}
	for _, a := range cells[8:16] {
		sound = sound && (a == 0 || isOne(a))
	}
	for _, at := range objects {
		for _, a := range cells[at+1 : at+1+forms[cells[at]].slots] {
			sound = sound && (a == 0 || isOne(a) || at >= cells[3] && isLeft(a))
		}
	}
	if cells[2] == 1 {
		sound = sound && (isOne(cells[3]) || cells[3] == cells[1])
	}
	if !sound {
		return api.ErrCorrupt
	}
	return api.OK
}

// answer is what the three calls tell.
type answer struct {
	errno          api.Errno
	garbage, moved int
}

// told is what they tell.
func told(s *store.Store) answer {
	return answer{audit.Check(s), audit.Garbage(s), audit.Moved(s)}
}

// asked is what they must tell, by the document's words.
func asked(cells []int) answer {
	return answer{askedCheck(cells), askedGarbage(cells), askedMoved(cells)}
}

// hold holds what is told of a heap against the document's words, and that nothing is done.
func hold(t *testing.T, what string, s *store.Store) answer {
	t.Helper()
	cells, room := s.All(), s.Room()
	wanted := asked(cells)
	want(t, what, told(s), wanted)
	want(t, what+": once more", told(s), wanted)
	want(t, what+": Room", s.Room(), room)
	if now := s.All(); !slices.Equal(now, cells) {
		t.Errorf("%s: the cells: %v, not %v", what, now, cells)
	}
	return wanted
}

// check holds as hold does, and Check against an error that is said.
func check(t *testing.T, what string, s *store.Store, wanted api.Errno) {
	t.Helper()
	hold(t, what, s)
	want(t, what+": Check", audit.Check(s), wanted)
}

// either is OK, if something may be, else ErrCorrupt.
func either(may bool) api.Errno {
	if may {
		return api.OK
	}
	return api.ErrCorrupt
}

// few is a store with objects at 16 (slots: 21, 16; a word that looks like a cell), 20 (lost), 21 (a slot: none; two words), 25 (lost, names 16); the root 2 is 16.
func few(t *testing.T) *store.Store {
	t.Helper()
	_, s := made(t, api.Geo{Half: 30, Log: 60})
	for _, f := range []form{{2, 1}, {0, 0}, {1, 2}, {1, 0}} {
		alloc.New(s, f.slots, f.words)
	}
	fill(s, 17, 21, 16, 20)
	fill(s, 23, 7, api.Wrap-1)
	fill(s, 26, 16)
	fill(s, 10, 16)
	return s
}

// half is a store in which a collection goes on, of 30 cells into the half no: there lie objects at 0 (two slots, scanned), 3 (two slots, a word), 7 (a slot), 9 is Free; in the other half one of two words at 4, one that moved to 3 at 9, one of two words up to the end at 27. What is said of a place is counted from the Base of its half.
func half(t *testing.T, no int) (s *store.Store, base, left int) {
	t.Helper()
	g := api.Geo{Half: 30, Log: 60}
	base, left = 16+30*no, 46-30*no
	_, s = made(t, g)
	put(s, going(g, no, 9, 3))
	fill(s, base, form{2, 0}.header(), base+3, base, form{2, 1}.header(), left+4, left+9, left, form{1, 0}.header(), left+27)
	fill(s, left+4, form{0, 2}.header(), 5, 5)
	fill(s, left+9, 33_554_432+base+3)
	fill(s, left+27, form{0, 2}.header(), 1, 2)
	fill(s, 8, base, base+7)
	return s, base, left
}

func TestP1801Examples(t *testing.T) {
	_, s := made(t, api.Geo{Half: 30, Log: 60})
	check(t, "formatted", s, api.OK)
	s = few(t)
	check(t, "few", s, api.OK)
	fill(s, 18, 22)
	check(t, "a slot that names no object", s, api.ErrCorrupt)
	fill(s, 18, 25)
	check(t, "a slot that names another object", s, api.OK)
	fill(s, 15, 17)
	check(t, "a root that names no object", s, api.ErrCorrupt)
	fill(s, 15, 25)
	check(t, "a root that names another object", s, api.OK)
	fill(s, 21, 16_777_215)
	check(t, "no header", s, api.ErrCorrupt)
	for no := range 2 {
		s, _, _ = half(t, no)
		check(t, "a collection goes on", s, api.OK)
	}
}

// TestP1801WhatIsWrongFirst asks that of no store it is ErrArg, and of a store, whatever is wrong with it, ErrCorrupt.
func TestP1801WhatIsWrongFirst(t *testing.T) {
	want(t, "nil", told(nil), answer{errno: api.ErrArg})
	want(t, "zero", told(&store.Store{}), answer{errno: api.ErrArg})
	_, s := made(t, api.Geo{Half: 8, Log: 4})
	for cell := range 32 {
		s.Set(cell, api.Wrap-1)
	}
	check(t, "nothing is right", s, api.ErrCorrupt)
	put(s, space.Control{Free: 16})
	check(t, "no root is right", s, api.ErrCorrupt)
	fill(s, 8, make([]int, 8)...)
	check(t, "all that is asked is right", s, api.OK)
}

// TestP1801OfEveryControl holds all calls with each control about those that may be.
func TestP1801OfEveryControl(t *testing.T) {
	_, s := made(t, api.Geo{Half: 8, Log: 8})
	fill(s, 16, form{1, 1}.header(), 16, 20, form{0, 0}.header(), form{0, 3}.header(), 1, 2, 3)
	fill(s, 24, form{2, 0}.header(), 24, 19, form{0, 0}.header(), form{1, 0}.header(), 24, form{1, 0}.header(), 16)
	was := s.All()
	sound := map[string]int{}
	for no := 0; no <= 2; no++ {
		for free := 14; free <= 34; free++ {
			for gc := 0; gc <= 2; gc++ {
				for scan := 0; scan <= 34; scan++ {
					for _, root := range []int{0, 16, 27} {
						put(s, space.Control{Space: no, Free: free, Gc: gc, Scan: scan})
						fill(s, 12, root)
						if hold(t, fmt.Sprintf("%d %d %d %d, the root %d", no, free, gc, scan, root), s).errno == api.OK {
							sound[fmt.Sprintf("half %d, gc %d", no, gc)]++
						}
					}
				}
			}
		}
	}
	// The first half is sound up to 16 (without a root), 19, 20 and 24 (with two of the roots), where Scan may be at one, two, three and four cells. The second one is up to 24 alone, where no collection goes on; else up to 24 and 27 (without a root), 28, 30 and 32 (with two of them), where Scan is at its Base: the first object lags behind.
	want(t, "how many are sound", fmt.Sprint(sound), "map[half 0, gc 0:7 half 0, gc 1:19 half 1, gc 0:1 half 1, gc 1:8]")
	for cell := range 4 {
		back(s, was)
		put(s, space.Control{Free: 20})
		check(t, "as it was", s, api.OK)
		s.Set(cell, api.Wrap-1)
		check(t, fmt.Sprintf("the cell %d is the greatest", cell), s, api.ErrCorrupt)
	}
}

// TestP1801OfEveryCell holds what is told of heaps in which all cells are alike: headers of some form, forwards, or neither.
func TestP1801OfEveryCell(t *testing.T) {
	g := api.Geo{Half: 8, Log: 4}
	_, s := made(t, g)
	for no := range 2 {
		base, left := 16+no*g.Half, 16+(1-no)*g.Half
		for _, v := range []int{0, 1, 16, base, left, 16_777_215, 16_777_216, 16_777_217, 16_777_216 + 256, 16_777_216 + 7, 16_777_216 + 31, 16_777_216 + 256*16, 33_554_432, 33_554_432 + base, 33_554_432 + left, 33_554_432 + base + 7, 33_554_432 + base + 8, api.Wrap - 1} {
			for cell := 16; cell < 32; cell++ {
				s.Set(cell, v)
			}
			for used := range 9 {
				for scanned := -1; scanned <= used; scanned++ {
					c := going(g, no, used, scanned)
					if scanned < 0 {
						c.Gc, c.Scan = 0, 0
					}
					put(s, c)
					for cell := range 35 {
						fill(s, 9, cell)
						hold(t, fmt.Sprintf("%+v, all cells %d, the root %d", c, v, cell), s)
					}
				}
			}
		}
	}
}

// TestP1801OfEveryForm lays objects of each form: behind another one in the half in use, with Free at each place about their end, and in the half that is being left about its end, where a slot names them.
func TestP1801OfEveryForm(t *testing.T) {
	g := api.Geo{Half: 70, Log: 60}
	_, s := made(t, g)
	for header, f := range forms {
		no := (f.slots + f.words) % 2
		base, left := 16+70*no, 86-70*no
		for cell := 16; cell < 156; cell++ {
			s.Set(cell, 33_554_432)
		}
		fill(s, base, form{1, 0}.header(), 0)
		fill(s, base+2, header)
		for k := 1; k < f.size(); k++ {
			s.Set(base+2+k, []int{base, 0, base + 2}[k%3]) // words may be as they like, too
		}
		for free := 2; free <= 2+f.size()+1; free++ {
			what := fmt.Sprintf("half %d, %+v, Free %d", no, f, free)
			wanted := either(free == 2 || free == 2+f.size())
			put(s, space.Control{Space: no, Free: base + free})
			check(t, what, s, wanted)
			put(s, going(g, no, free, free))
			check(t, what+", while a collection goes on", s, wanted)
		}
		put(s, going(g, no, 2, 0))
		for passes := -1; passes <= 1; passes++ {
			at := left + 70 - f.size() + passes
			fill(s, base+1, at)
			fill(s, at, header)
			check(t, fmt.Sprintf("half %d, %+v, %d passes", no, f, passes), s, either(passes <= 0 && f.size() > passes))
			fill(s, at, 33_554_432)
		}
	}
}

// TestP1801UpToFree asks that objects lie one behind the other, just up to Free, in each half, also where these fill it; what is behind Free is none of them.
func TestP1801UpToFree(t *testing.T) {
	g := api.Geo{Half: 30, Log: 60}
	for no := range 2 {
		_, s := made(t, g)
		base := 16 + 30*no
		var ends []int
		for at, k := 0, 0; at < 30; k++ {
			f := form{k % 3, k % 2}
			if at+f.size() > 30 {
				f = form{0, 29 - at}
			}
			fill(s, base+at, f.header())
			ends = append(ends, at)
			at += f.size()
		}
		ends = append(ends, 30)
		want(t, "how many there are", len(ends) > 10, true)
		for used := range 31 {
			isEnd := slices.Contains(ends, used)
			put(s, space.Control{Space: no, Free: base + used})
			check(t, fmt.Sprintf("half %d, %d used", no, used), s, either(isEnd))
			for scanned := range used + 1 {
				put(s, going(g, no, used, scanned))
				check(t, fmt.Sprintf("half %d, %d used, %d scanned", no, used, scanned), s, either(isEnd && slices.Contains(ends, scanned)))
			}
		}
		for _, at := range ends[:len(ends)-1] {
			put(s, space.Control{Space: no, Free: base + 30})
			was := s.Get(base + at)
			for _, v := range []int{0, 1, 16_777_215, 16_777_216 + 31, 16_777_216 + 256*16, 33_554_432 + base, 33_554_432 + 16_777_216, api.Wrap - 1} {
				fill(s, base+at, v)
				check(t, fmt.Sprintf("half %d, the header at %d is %d", no, at, v), s, api.ErrCorrupt)
				put(s, space.Control{Space: no, Free: base + at})
				check(t, fmt.Sprintf("half %d, behind %d is %d", no, at, v), s, api.OK)
				put(s, space.Control{Space: no, Free: base + 30})
			}
			fill(s, base+at, was)
		}
	}
}

// TestP1801EachRoot lets each root name each cell, where a collection goes on and where none does, and asks that cells beside the roots name nothing.
func TestP1801EachRoot(t *testing.T) {
	for root := range 8 {
		s := few(t)
		fill(s, 4, 99, 17, 98, api.Wrap-1)
		fill(s, 10, 0)
		for _, v := range append(upTo(80), 816, 16_777_216, 33_554_432+16, api.Wrap-1) {
			fill(s, 8+root, v)
			check(t, fmt.Sprintf("the root %d is %d", root, v), s, either(slices.Contains([]int{0, 16, 20, 21, 25}, v)))
		}
		for no := range 2 {
			s, base, _ := half(t, no)
			for _, v := range append(upTo(80), 816, 16_777_216, 33_554_432+base, api.Wrap-1) {
				fill(s, 8, make([]int, 8)...)
				fill(s, 8+root, v)
				check(t, fmt.Sprintf("half %d, the root %d is %d", no, root, v), s, either(slices.Contains([]int{0, base, base + 3, base + 7}, v)))
			}
		}
	}
}

// upTo are the numbers below n.
func upTo(n int) []int {
	l := make([]int, n)
	for i := range l {
		l[i] = i
	}
	return l
}

// TestP1801EachSlot lets each slot of objects name what is none: also of the last object, and of what nobody names; words name nothing.
func TestP1801EachSlot(t *testing.T) {
	_, s := made(t, api.Geo{Half: 100, Log: 60})
	for k := range 6 {
		alloc.New(s, 15, 0)
		fill(s, 17+16*k, 16, (16+16*(k+1))%112)
	}
	alloc.New(s, 0, 3)
	was := s.All()
	check(t, "sound", s, api.OK)
	for n := range 6 {
		for slot := range 15 {
			for _, v := range []int{1, 15, 17, 31, 113, 115, 116, 216, api.Wrap - 1} {
				fill(s, 17+16*n+slot, v)
				check(t, fmt.Sprintf("the slot %d of the object %d is %d", slot, n, v), s, api.ErrCorrupt)
			}
			for _, v := range []int{0, 16, 32, 96, 112} {
				fill(s, 17+16*n+slot, v)
				check(t, fmt.Sprintf("the slot %d of the object %d is %d", slot, n, v), s, api.OK)
			}
			back(s, was)
		}
	}
	for word := range 3 {
		for _, v := range []int{1, 17, 99, 16_777_216, 33_554_432 + 16, api.Wrap - 1} {
			fill(s, 113+word, v)
			check(t, fmt.Sprintf("the word %d is %d", word, v), s, api.OK)
		}
	}
}

// TestP1801EachSlotWhileACollectionGoesOn lets each slot name each cell: what was scanned, or lies in no object of the half that is being left, is none there.
func TestP1801EachSlotWhileACollectionGoesOn(t *testing.T) {
	for no := range 2 {
		s, base, left := half(t, no)
		was := s.All()
		objects := []int{0, base, base + 3, base + 7}
		lags := []int{left + 4, left + 9, left + 27}
		for _, slot := range []int{1, 2, 4, 5, 8} {
			for _, v := range append(upTo(80), 816, 16_777_216, 33_554_432+base, api.Wrap-1) {
				fill(s, base+slot, v)
				what := fmt.Sprintf("half %d, the slot at %d is %d", no, slot, v)
				check(t, what, s, either(slices.Contains(objects, v) || slot >= 3 && slices.Contains(lags, v)))
			}
			back(s, was)
		}
		c := space.Get(s)
		c.Gc, c.Scan = 0, 0
		put(s, c)
		check(t, "no collection goes on, and slots lag behind", s, api.ErrCorrupt)
	}
}

// TestP1801FromScanOn asks that each object ahead of Scan names only what lies in the half in use, and each one from Scan on may lag behind; Scan is at one of them, or at Free.
func TestP1801FromScanOn(t *testing.T) {
	g := api.Geo{Half: 30, Log: 60}
	for no := range 2 {
		base, left := 16+30*no, 46-30*no
		for _, v := range []int{left + 5, left + 6} {
			for lagging := range 6 {
				_, s := made(t, g)
				fill(s, left+5, form{0, 1}.header(), 33_554_432+base+12)
				for k := range 6 {
					fill(s, base+4*k, form{2, 1}.header(), base, 0, left+20)
				}
				fill(s, base+4*lagging+2, v)
				for scanned := range 25 {
					put(s, going(g, no, 24, scanned))
					what := fmt.Sprintf("half %d, %d lags behind with %d, Scan %d", no, lagging, v, scanned)
					check(t, what, s, either(scanned%4 == 0 && scanned <= 4*lagging))
				}
			}
		}
	}
}

// TestP1801WhereItMoved lets what stands in place of a header name each cell: it must be that of an object of the half in use, wherever Scan is.
func TestP1801WhereItMoved(t *testing.T) {
	for no := range 2 {
		s, base, left := half(t, no)
		for to := -1; to <= 100; to++ {
			fill(s, left+9, 33_554_432+to)
			check(t, fmt.Sprintf("half %d, moved to %d", no, to), s, either(slices.Contains([]int{base, base + 3, base + 7}, to)))
		}
		for _, v := range []int{0, base + 3, 33_554_432*2 + base + 3, 16_777_216 + base + 3, 33_554_432 + 100_001, api.Wrap - 1} {
			fill(s, left+9, v)
			check(t, fmt.Sprintf("half %d, in place of a header %d", no, v), s, either(forms[v] != form{}))
		}
		fill(s, left+9, 33_554_432+base+9)
		fill(s, base+9, form{0, 0}.header())
		check(t, "moved to what is behind Free", s, api.ErrCorrupt)
		put(s, going(s.Geo(), no, 10, 3))
		check(t, "Free is behind that", s, api.OK)
	}
}

// TestP1801OfTheOtherHalf asks that of the other half nothing else is said: neither of what no slot names there, nor of what its objects name.
func TestP1801OfTheOtherHalf(t *testing.T) {
	for no := range 2 {
		s, _, left := half(t, no)
		for at := range 30 {
			was := s.Get(left + at)
			isSaid := at == 4 || at == 9 || at == 27
			for _, v := range []int{0, 1, 99, 16_777_216 + 256*15 + 30, 33_554_432, 33_554_432 + left, api.Wrap - 1} {
				fill(s, left+at, v)
				check(t, fmt.Sprintf("half %d, at %d is %d", no, at, v), s, either(!isSaid))
			}
			fill(s, left+at, was)
		}
		fill(s, left+4, form{15, 2}.header())
		for k := range 15 {
			fill(s, left+5+k, []int{99, left + 1, 17, api.Wrap - 1}[k%4])
		}
		fill(s, left+9, 33_554_432+space.Get(s).Scan)
		check(t, "slots of what was not moved yet", s, api.OK)
	}
	s := few(t)
	for cell := 27; cell < 76; cell++ {
		fill(s, cell, 7*cell)
	}
	check(t, "behind Free, and in the other half", s, api.OK)
}

// TestP1801AsItIsNow asks that working cells count, and that nothing is held back or left behind where the power went.
func TestP1801AsItIsNow(t *testing.T) {
	d, s := made(t, api.Geo{Half: 30, Log: 60})
	alloc.New(s, 1, 0)
	want(t, "Commit", s.Commit(), api.OK)
	fill(s, 17, 18)
	check(t, "a working slot", s, api.ErrCorrupt)
	changed := fmt.Sprint(s.Changed())
	want(t, "Changed", changed, "[{17 18}]")
	s.Abort()
	check(t, "behind Abort", s, api.OK)
	fill(s, 17, 18)
	want(t, "Commit", s.Commit(), api.OK)
	check(t, "committed", s, api.ErrCorrupt)
	deeds := d.Deeds()
	hold(t, "no deed", s)
	want(t, "Deeds", d.Deeds(), deeds)
	d.Crash()
	want(t, "Commit", s.Commit(), api.OK) // nothing is Changed
	check(t, "without power", s, api.ErrCorrupt)
	fill(s, 17, 16)
	check(t, "mended without power", s, api.OK)
	want(t, "Commit", s.Commit(), api.ErrOff)
	check(t, "Off", s, api.ErrCorrupt)
	d.Power()
	check(t, "opened anew", opened(t, d), api.ErrCorrupt)
}

// TestP1801OfTheGreatest holds heaps of as many objects as there may be.
func TestP1801OfTheGreatest(t *testing.T) {
	g := api.Geo{Half: 400, Log: 300}
	_, s := made(t, g)
	for cell := 16; cell < 816; cell++ {
		s.Set(cell, 16_777_216)
	}
	put(s, going(g, 1, 400, 399))
	fill(s, 8, 416, 815)
	check(t, "no slots", s, api.OK)
	for k := range 200 {
		fill(s, 16+2*k, form{1, 0}.header(), 16+(2*k+2)%400)
		fill(s, 416+2*k, form{1, 0}.header(), 16+2*k)
	}
	put(s, going(g, 1, 400, 0))
	fill(s, 8, 416, 814)
	check(t, "all lag behind", s, api.OK)
	put(s, going(g, 1, 400, 2))
	check(t, "one was scanned", s, api.ErrCorrupt)
	fill(s, 417, 814)
	check(t, "it names the last one", s, api.OK)
	fill(s, 815, 815)
	check(t, "the last one names what is none", s, api.ErrCorrupt)
}
