package field_test

import (
	"fmt"
	"math"
	"math/rand"
	"slices"
	"testing"

	"flitting/alloc"
	"flitting/api"
	"flitting/field"
	"flitting/sector"
	"flitting/space"
	"flitting/store"
)

func want[T comparable](t *testing.T, what string, got, wanted T) {
	t.Helper()
	if got != wanted {
		t.Errorf("%s: %#v, not %#v", what, got, wanted)
	}
}

// same holds lists against each other; one that is nil and one that is empty are the same.
func same(t *testing.T, what string, got, wanted []int) {
	t.Helper()
	if !slices.Equal(got, wanted) {
		t.Errorf("%s: %v, not %v", what, got, wanted)
	}
}

// made is a disk and a store that was formatted.
func made(t *testing.T, g api.Geo) (*sector.Disk, *store.Store) {
	t.Helper()
	d := sector.New(1000)
	want(t, "Format", store.Format(d, g), api.OK)
	return d, opened(t, d)
}

func opened(t *testing.T, d *sector.Disk) *store.Store {
	t.Helper()
	s, e := store.Open(d)
	want(t, "Open", e, api.OK)
	return s
}

// put gives the cells of the control values as they are, whether they may be or not.
func put(s *store.Store, c space.Control) { fill(s, 0, c.Space, c.Free, c.Gc, c.Scan) }

// fill gives the cells from at on values.
func fill(s *store.Store, at int, values ...int) {
	for i, v := range values {
		s.Set(at+i, v)
	}
}

// going is the control of a collection that goes on into a half.
func going(g api.Geo, no, used int) space.Control {
	base := 16 + no*g.Half
	return space.Control{Space: no, Free: base + used, Gc: 1, Scan: base}
}

// deed is a call and what is handed in to it: v is what is to be written, a the object; what it does not name is not looked at.
type deed struct {
	call    string
	a, i, v int
}

// answer is what a call tells; what stands beside an error, and what it does not tell, must be zero.
type answer struct {
	v, w  int
	errno api.Errno
}

func do(s *store.Store, d deed) (r answer) {
	switch d.call {
	case "Root":
		r.v, r.errno = field.Root(s, d.i)
	case "SetRoot":
		r.errno = field.SetRoot(s, d.i, d.v)
	case "Load":
		r.v, r.errno = field.Load(s, d.a, d.i)
	case "Put":
		r.errno = field.Put(s, d.a, d.i, d.v)
	case "Word":
		r.v, r.errno = field.Word(s, d.a, d.i)
	case "SetWord":
		r.errno = field.SetWord(s, d.a, d.i, d.v)
	case "Shape":
		r.v, r.w, r.errno = field.Shape(s, d.a)
	}
	return r
}

// deeds are all calls with that handed in.
func deeds(a, i, v int) []deed {
	return []deed{{"Root", 0, i, 0}, {"SetRoot", 0, i, v}, {"Load", a, i, 0}, {"Put", a, i, v}, {"Word", a, i, 0}, {"SetWord", a, i, v}, {"Shape", a, 0, 0}}
}

// isRight tells whether the control of some cells may be, by the document's words.
func isRight(cells []int) bool {
	half := (len(cells) - 16) / 2
	no, free, gc, scan := cells[0], cells[1], cells[2], cells[3]
	if no != 0 && no != 1 {
		return false
	}
	base := 16 + no*half
	return base <= free && free <= base+half && (gc == 0 && scan == 0 || gc == 1 && base <= scan && scan <= free)
}

// form is how many slots and words an object has.
type form struct{ slots, words int }

// forms are those of all headers, by the document's words.
var forms = laidForms()

func laidForms() map[int]form {
	m := map[int]form{}
	for slots := 0; slots <= 15; slots++ {
		for words := 0; words <= 30; words++ {
			m[16_777_216+256*slots+words] = form{slots, words}
		}
	}
	return m
}

// lies tells whether an object that is not none may be named, and its form, by the document's words.
func lies(cells []int, a int) (form, bool) {
	if !isRight(cells) {
		return form{}, false
	}
	half := (len(cells) - 16) / 2
	if base := 16 + cells[0]*half; a < base || a >= base+half {
		return form{}, false
	}
	f, is := forms[cells[a]]
	if !is || a+1+f.slots+f.words > cells[1] {
		return form{}, false
	}
	return f, true
}

// followed is where an object is now, by the document's words; what moves is moved in the cells.
func followed(cells []int, a int) (int, api.Errno) {
	if !isRight(cells) {
		return 0, api.ErrArg
	}
	half := (len(cells) - 16) / 2
	used, left := 16+cells[0]*half, 16+half-cells[0]*half
	if a == 0 || used <= a && a < used+half {
		return a, api.OK
	}
	if cells[2] == 0 || a < left || a >= left+half {
		return 0, api.ErrCorrupt
	}
	if to := cells[a] - 33_554_432; used <= to && to < used+half {
		return to, api.OK
	}
	f, is := forms[cells[a]]
	size, free := 1+f.slots+f.words, cells[1]
	if !is || a+size > left+half {
		return 0, api.ErrCorrupt
	}
	if free+size > used+half {
		return 0, api.ErrHeap
	}
	copy(cells[free:free+size], cells[a:a+size])
	cells[a], cells[1] = 33_554_432+free, free+size
	return free, api.OK
}

// asked is what a call must tell, by the document's words; the cells are turned to what they must be behind it.
func asked(cells []int, d deed) answer {
	if d.call == "Root" || d.call == "SetRoot" {
		if d.i < 0 || d.i > 7 {
			return answer{errno: api.ErrIndex}
		}
		return deal(cells, d, 8+d.i)
	}
	if d.a == 0 {
		return answer{errno: api.ErrNil}
	}
	f, is := lies(cells, d.a)
	if !is {
		return answer{errno: api.ErrArg}
	}
	switch d.call {
	case "Put":
		if _, is := lies(cells, d.v); d.v != 0 && !is {
			return answer{errno: api.ErrArg}
		}
	case "SetWord":
		if d.v < 0 || d.v > 4_294_967_295 {
			return answer{errno: api.ErrArg}
		}
	case "Shape":
		return answer{v: f.slots, w: f.words}
	}
	from, n := d.a+1, f.slots
	if d.call == "Word" || d.call == "SetWord" {
		from, n = d.a+1+f.slots, f.words
	}
	if d.i < 0 || d.i >= n {
		return answer{errno: api.ErrIndex}
	}
	return deal(cells, d, from+d.i)
}

// deal reads or writes the cell for which a call asks.
func deal(cells []int, d deed, at int) answer {
	switch d.call {
	case "Root", "Load":
		now, errno := followed(cells, cells[at])
		if errno != api.OK {
			return answer{errno: errno}
		}
		cells[at] = now
		return answer{v: now}
	case "SetRoot":
		if _, is := lies(cells, d.v); d.v != 0 && !is {
			return answer{errno: api.ErrArg}
		}
	case "Word":
		return answer{v: cells[at]}
	}
	cells[at] = d.v
	return answer{}
}

// act does a deed, and holds the answer and each cell behind it against the document's words.
func act(t *testing.T, what string, s *store.Store, d deed) {
	t.Helper()
	wanted := s.All()
	r := asked(wanted, d)
	if got := do(s, d); got != r {
		t.Errorf("%s: %+v: %+v, not %+v", what, d, got, r)
	}
	if now := s.All(); !slices.Equal(now, wanted) {
		t.Errorf("%s: %+v: cells %v, not %v", what, d, now, wanted)
	}
}

// hold acts, and turns back then what was turned.
func hold(t *testing.T, what string, s *store.Store, d deed) {
	t.Helper()
	was := s.All()
	act(t, what, s, d)
	for cell, v := range s.All() {
		if v != was[cell] {
			s.Set(cell, was[cell])
		}
	}
}

// holdAll holds all calls with each object and each index handed in, and some values.
func holdAll(t *testing.T, what string, s *store.Store, objects, indexes, values []int) {
	t.Helper()
	for _, i := range indexes {
		for _, v := range values {
			hold(t, what, s, deed{"SetRoot", 0, i, v})
		}
		hold(t, what, s, deed{"Root", 0, i, 0})
	}
	for _, a := range objects {
		hold(t, what, s, deed{"Shape", a, 0, 0})
		for _, i := range indexes {
			hold(t, what, s, deed{"Load", a, i, 0})
			hold(t, what, s, deed{"Word", a, i, 0})
			for _, v := range values {
				hold(t, what, s, deed{"Put", a, i, v})
				hold(t, what, s, deed{"SetWord", a, i, v})
			}
		}
	}
}

// numbers are those that are no cell, no index and no value, or far from one, and such as come near to one where they go round.
var numbers = []int{math.MinInt, math.MinInt + 1, math.MinInt + 16, math.MaxInt, math.MaxInt - 1, math.MaxInt - 16, api.Wrap, api.Wrap + 1, api.Wrap + 16, api.Wrap - 1, -api.Wrap, -16, -1, 1 << 31, -1 << 31, 1 << 16, 16_777_216, 33_554_432 + 16}

// between are the numbers from one up to another one.
func between(from, to int) []int {
	var l []int
	for v := from; v <= to; v++ {
		l = append(l, v)
	}
	return l
}

// pair is a store with two objects: 16 has two slots and a word, 20 has two words.
func pair(t *testing.T) *store.Store {
	t.Helper()
	_, s := made(t, api.Geo{Half: 30, Log: 60})
	a, _ := alloc.New(s, 2, 1)
	b, _ := alloc.New(s, 0, 2)
	want(t, "the first one", a, 16)
	want(t, "the second one", b, 20)
	return s
}

// play does deeds, and holds what each one tells.
func play(t *testing.T, s *store.Store, l []deed, answers []answer) {
	t.Helper()
	want(t, "how many", len(l), len(answers))
	for k, d := range l {
		want(t, fmt.Sprintf("%d: %+v", k, d), do(s, d), answers[k])
	}
}

func TestP1401Examples(t *testing.T) {
	s := pair(t)
	play(t, s,
		[]deed{{"Put", 16, 0, 20}, {"Load", 16, 0, 0}, {"Load", 16, 1, 0}, {"Put", 16, 1, 16}, {"Load", 16, 1, 0}, {"SetRoot", 0, 0, 16}, {"SetRoot", 0, 7, 20}, {"Root", 0, 0, 0}, {"Root", 0, 7, 0}, {"Root", 0, 1, 0}},
		[]answer{{}, {v: 20}, {}, {}, {v: 16}, {}, {}, {v: 16}, {v: 20}, {}})
	same(t, "the cells", s.All()[8:23], []int{16, 0, 0, 0, 0, 0, 0, 20, 16_777_216 + 2*256 + 1, 20, 16, 0, 16_777_216 + 2, 0, 0})
	play(t, s,
		[]deed{{"Put", 16, 0, 0}, {"Load", 16, 0, 0}, {"SetRoot", 0, 7, 0}, {"Root", 0, 7, 0}},
		[]answer{{}, {}, {}, {}})
	same(t, "the cells behind that", s.All()[8:23], []int{16, 0, 0, 0, 0, 0, 0, 0, 16_777_216 + 2*256 + 1, 0, 16, 0, 16_777_216 + 2, 0, 0})
}

func TestP1402Examples(t *testing.T) {
	s := pair(t)
	play(t, s,
		[]deed{{"SetWord", 20, 1, 7}, {"SetWord", 16, 0, api.Wrap - 1}, {"Word", 20, 1, 0}, {"Word", 20, 0, 0}, {"Word", 16, 0, 0}, {"Shape", 16, 0, 0}, {"Shape", 20, 0, 0}},
		[]answer{{}, {}, {v: 7}, {}, {v: 4_294_967_295}, {v: 2, w: 1}, {w: 2}})
	same(t, "the cells", s.All()[16:23], []int{16_777_216 + 2*256 + 1, 0, 0, 4_294_967_295, 16_777_216 + 2, 0, 7})
	play(t, s, []deed{{"SetWord", 16, 0, 0}, {"Word", 16, 0, 0}}, []answer{{}, {}})
}

// TestP1401WhatGoesWrongFirst asks, where several go wrong, for the one that is named first.
func TestP1401WhatGoesWrongFirst(t *testing.T) {
	s := pair(t)
	arg, index, none := answer{errno: api.ErrArg}, answer{errno: api.ErrIndex}, answer{errno: api.ErrNil}
	play(t, s,
		[]deed{{"SetRoot", 0, 8, 17}, {"SetRoot", 0, -1, 17}, {"SetRoot", 0, 7, 17}, {"SetRoot", 0, 8, 0}, {"Root", 0, 8, 0}, {"Root", 0, -1, 0}},
		[]answer{index, index, arg, index, index, index})
	play(t, s,
		[]deed{{"Load", 0, 0, 0}, {"Load", 0, 9, 0}, {"Load", 17, 9, 0}, {"Load", 17, 0, 0}, {"Load", 16, 2, 0}, {"Load", 16, -1, 0}, {"Load", 20, 0, 0}},
		[]answer{none, none, arg, arg, index, index, index})
	play(t, s,
		[]deed{{"Put", 0, 9, 17}, {"Put", 0, 0, 16}, {"Put", 17, 9, 0}, {"Put", 17, 0, 0}, {"Put", 17, 0, 17}, {"Put", 16, 2, 17}, {"Put", 16, 0, 17}, {"Put", 16, 2, 16}, {"Put", 16, -1, 0}, {"Put", 20, 0, 0}},
		[]answer{none, none, arg, arg, arg, arg, arg, index, index, index})
	same(t, "the cells", s.All()[8:23], []int{0, 0, 0, 0, 0, 0, 0, 0, 16_777_216 + 2*256 + 1, 0, 0, 0, 16_777_216 + 2, 0, 0})
}

func TestP1402WhatGoesWrongFirst(t *testing.T) {
	s := pair(t)
	arg, index, none := answer{errno: api.ErrArg}, answer{errno: api.ErrIndex}, answer{errno: api.ErrNil}
	play(t, s,
		[]deed{{"Word", 0, 0, 0}, {"Word", 0, 9, 0}, {"Word", 17, 9, 0}, {"Word", 17, 0, 0}, {"Word", 20, 2, 0}, {"Word", 20, -1, 0}, {"Word", 16, 1, 0}},
		[]answer{none, none, arg, arg, index, index, index})
	play(t, s,
		[]deed{{"SetWord", 0, 9, -1}, {"SetWord", 0, 0, 5}, {"SetWord", 17, 9, 5}, {"SetWord", 17, 0, 5}, {"SetWord", 20, 2, -1}, {"SetWord", 20, 0, -1}, {"SetWord", 20, 2, api.Wrap}, {"SetWord", 20, 1, api.Wrap}, {"SetWord", 20, 2, 5}, {"SetWord", 20, -1, 5}},
		[]answer{none, none, arg, arg, arg, arg, arg, arg, index, index})
	play(t, s,
		[]deed{{"Shape", 0, 0, 0}, {"Shape", 17, 0, 0}, {"Shape", 23, 0, 0}, {"Shape", -1, 0, 0}, {"Shape", 15, 0, 0}, {"Shape", 46, 0, 0}},
		[]answer{none, arg, arg, arg, arg, arg})
	same(t, "the cells", s.All()[16:23], []int{16_777_216 + 2*256 + 1, 0, 0, 0, 16_777_216 + 2, 0, 0})
}

// TestP1401P1402OfEveryCell asks for each cell of heaps in which all cells are alike: headers of some form, forwards, or neither.
func TestP1401P1402OfEveryCell(t *testing.T) {
	g := api.Geo{Half: 8, Log: 4}
	_, s := made(t, g)
	for no := range 2 {
		base, left := 16+no*8, 24-no*8
		for _, v := range []int{0, 1, 16, base, left, 16_777_215, 16_777_216, 16_777_217, 16_777_216 + 256, 16_777_216 + 256 + 1, 16_777_216 + 31, 16_777_216 + 256*16, 33_554_432 + base, 33_554_432 + left, api.Wrap - 1} {
			for cell := 8; cell < 32; cell++ {
				s.Set(cell, v)
			}
			for _, c := range []space.Control{{Space: no, Free: base + 5}, going(g, no, 5)} {
				put(s, c)
				holdAll(t, fmt.Sprintf("%+v, all cells %d", c, v), s, between(-2, 34), between(-1, 3), []int{0, 5, base - 1, base, base + 4, base + 5, left})
			}
		}
	}
}

// TestP1401P1402OfEveryControl asks with each control about those that may be: with one that may not be no object is named but none.
func TestP1401P1402OfEveryControl(t *testing.T) {
	g := api.Geo{Half: 8, Log: 8}
	_, s := made(t, g)
	fill(s, 8, 16, 18, 24, 26, 0, 28, 16, 24)
	for cell := 16; cell < 32; cell += 4 {
		fill(s, cell, 16_777_216+256+1, 24, 16_777_216+1, 5)
	}
	check := func(c space.Control) {
		put(s, c)
		for _, a := range []int{0, 16, 18, 22, 24, 26, 28, 30} {
			for _, d := range deeds(a, a%3, a) {
				hold(t, fmt.Sprintf("%+v", c), s, d)
			}
		}
	}
	for no := 0; no <= 2; no++ {
		for free := 14; free <= 34; free++ {
			for gc := 0; gc <= 2; gc++ {
				for _, scan := range []int{0, 1, 15, 16, 18, 20, 23, 24, 25, 28, 32, 33, api.Wrap - 1} {
					check(space.Control{Space: no, Free: free, Gc: gc, Scan: scan})
				}
			}
		}
	}
	most := api.Wrap - 1
	for _, c := range []space.Control{{Space: most, Free: 20}, {Free: most}, {Free: 20, Gc: most}, {Free: 20, Scan: most}, {Free: 20, Gc: 1, Scan: most}} {
		check(c)
	}
}

// TestP1401WrongControl asks what the words say of a control that may not be, call by call.
func TestP1401WrongControl(t *testing.T) {
	s := pair(t)
	fill(s, 8, 16)
	s.Set(api.FreeAt, 5)
	arg, index, none := answer{errno: api.ErrArg}, answer{errno: api.ErrIndex}, answer{errno: api.ErrNil}
	play(t, s,
		[]deed{{"Root", 0, 0, 0}, {"Root", 0, 1, 0}, {"Root", 0, 8, 0}, {"SetRoot", 0, 1, 16}, {"SetRoot", 0, 8, 16}, {"SetRoot", 0, 0, 0}, {"Load", 16, 0, 0}, {"Load", 0, 0, 0}, {"Put", 16, 0, 0}, {"Put", 0, 0, 0}, {"Word", 16, 0, 0}, {"Word", 0, 0, 0}, {"SetWord", 16, 0, 5}, {"SetWord", 0, 0, 5}, {"Shape", 16, 0, 0}, {"Shape", 0, 0, 0}},
		[]answer{arg, arg, index, arg, index, {}, arg, none, arg, none, arg, none, arg, none, arg, none})
	want(t, "the root that was set", s.Get(8), 0)
}

// TestP1401P1402OfEveryForm asks for objects of each form, each slot and each word of them and those beside, with Free at each place about their end.
func TestP1401P1402OfEveryForm(t *testing.T) {
	g := api.Geo{Half: 50, Log: 60}
	_, s := made(t, g)
	for header, f := range forms {
		no := (f.slots + f.words) % 2
		a := 16 + 50*no + f.words%5
		end := a + 1 + f.slots + f.words
		for cell := 16; cell < 116; cell++ {
			s.Set(cell, 7_000_000+cell)
		}
		for k := range f.slots {
			s.Set(a+1+k, (a+k)*(k%2))
		}
		s.Set(a, header)
		for free := end - 1; free <= end+1 && free <= 66+50*no; free++ {
			put(s, space.Control{Space: no, Free: free})
			what := fmt.Sprintf("%+v at %d, Free %d", f, a, free)
			hold(t, what, s, deed{"Shape", a, 0, 0})
			hold(t, what, s, deed{"SetRoot", 0, 3, a})
			for i := -1; i <= max(f.slots, f.words)+1; i++ {
				for _, d := range []deed{{"Load", a, i, 0}, {"Put", a, i, a}, {"Put", a, i, 0}, {"Word", a, i, 0}, {"SetWord", a, i, 9}} {
					hold(t, what, s, d)
				}
			}
		}
	}
}

// TestP1401P1402UpToTheEnd asks for objects that end where their half ends, and such as would pass it.
func TestP1401P1402UpToTheEnd(t *testing.T) {
	for _, g := range []api.Geo{{Half: 8, Log: 4}, {Half: 400, Log: 300}} {
		_, s := made(t, g)
		for no := range 2 {
			end := 16 + g.Half + no*g.Half
			for a := end - 6; a <= end; a++ {
				for free := end - 2; free <= end; free++ {
					put(s, space.Control{Space: no, Free: free})
					for cell := end - 6; cell < end+6; cell++ {
						s.Set(cell, 0)
					}
					s.Set(a, 16_777_216+2*256+2)
					holdAll(t, fmt.Sprintf("%+v, half %d, Free %d, object at %d", g, no, free, a), s, []int{a - 1, a, a + 1}, between(-1, 2), []int{0, a, a + 1})
				}
			}
		}
	}
}

// TestP1401P1402OfNumbersWithoutEnd hands in numbers that are no cell, no index and no word at all.
func TestP1401P1402OfNumbersWithoutEnd(t *testing.T) {
	s := pair(t)
	fill(s, 17, 20, 16, 5)
	fill(s, 8, 16, 20)
	with := append([]int{0, 1, 16, 20}, numbers...)
	holdAll(t, "numbers without end", s, with, with, with)
	for _, v := range numbers {
		for _, d := range deeds(v, 0, v) {
			want(t, fmt.Sprintf("%+v", d), do(s, d).errno == api.OK, d.call == "Root")
		}
	}
}

// TestP1401TheOtherHalf asks that an object that still lies in the half that is being left, or moved away from it, is none that is named, whether a collection goes on or not.
func TestP1401TheOtherHalf(t *testing.T) {
	g := api.Geo{Half: 10, Log: 30}
	_, s := made(t, g)
	arg := answer{errno: api.ErrArg}
	for no := range 2 {
		base, left := 16+no*10, 26-no*10
		for _, c := range []space.Control{{Space: no, Free: base + 2}, going(g, no, 2)} {
			fill(s, base, 16_777_216+256, 0)
			for _, v := range []int{16_777_216, 16_777_216 + 256 + 1, 33_554_432 + base} {
				put(s, c)
				fill(s, left, v, base, base)
				for _, d := range deeds(left, 0, left) {
					if d.call != "Root" {
						want(t, fmt.Sprintf("%+v, %d there: %+v", c, v, d), do(s, d), arg)
					}
				}
				want(t, "Put into one that may be", field.Put(s, base, 0, left), api.ErrArg)
				want(t, "the slot", s.Get(base+1), 0)
			}
		}
	}
}

// TestP1401RootIsFollowed reads roots while a collection goes on: what they name moves, once, and they name it where it is then.
func TestP1401RootIsFollowed(t *testing.T) {
	g := api.Geo{Half: 30, Log: 60}
	for k := range 8 {
		_, s := made(t, g)
		put(s, space.Control{Space: 1, Free: 46, Gc: 1, Scan: 46})
		fill(s, 16, 16_777_216+2*256, 19, 16, 16_777_216+1, 7)
		other := (k + 3) % 8
		fill(s, 8+k, 16)
		fill(s, 8+other, 16)
		play(t, s, []deed{{"Root", 0, k, 0}, {"Root", 0, k, 0}}, []answer{{v: 46}, {v: 46}})
		want(t, "its cell", s.Get(8+k), 46)
		want(t, "another one's cell", s.Get(8+other), 16)
		want(t, "Free", s.Get(api.FreeAt), 49)
		same(t, "what moved", s.All()[46:50], []int{16_777_216 + 2*256, 19, 16, 0})
		want(t, "what is left", s.Get(16), 33_554_432+46)
		play(t, s, []deed{{"Root", 0, other, 0}}, []answer{{v: 46}})
		want(t, "another one's cell behind that", s.Get(8+other), 46)
		want(t, "Free behind that", s.Get(api.FreeAt), 49)
	}
}

// TestP1401LoadIsFollowed reads slots while a collection goes on.
func TestP1401LoadIsFollowed(t *testing.T) {
	_, s := made(t, api.Geo{Half: 30, Log: 60})
	put(s, space.Control{Space: 1, Free: 51, Gc: 1, Scan: 46})
	fill(s, 16, 16_777_216+2*256, 19, 16, 16_777_216+1, 7)
	fill(s, 46, 16_777_216+4*256, 16, 19, 46, 16)
	play(t, s, []deed{{"Load", 46, 3, 0}}, []answer{{v: 51}})
	same(t, "the slots", s.All()[46:51], []int{16_777_216 + 4*256, 16, 19, 46, 51})
	play(t, s, []deed{{"Load", 46, 0, 0}, {"Load", 46, 2, 0}, {"Load", 46, 1, 0}}, []answer{{v: 51}, {v: 46}, {v: 54}})
	same(t, "all that moved", s.All()[46:57], []int{16_777_216 + 4*256, 51, 54, 46, 51, 16_777_216 + 2*256, 19, 16, 16_777_216 + 1, 7, 0})
	play(t, s, []deed{{"Load", 51, 1, 0}, {"Load", 51, 0, 0}, {"Word", 54, 0, 0}}, []answer{{v: 51}, {v: 54}, {v: 7}})
	same(t, "all behind that", s.All()[46:57], []int{16_777_216 + 4*256, 51, 54, 46, 51, 16_777_216 + 2*256, 54, 51, 16_777_216 + 1, 7, 0})
	want(t, "the control", space.Get(s), space.Control{Space: 1, Free: 56, Gc: 1, Scan: 46})
}

// TestP1401OfWhatCantBeFollowed asks for Follow's errors: the cell keeps then what it has.
func TestP1401OfWhatCantBeFollowed(t *testing.T) {
	g := api.Geo{Half: 30, Log: 60}
	_, s := made(t, g)
	put(s, space.Control{Space: 1, Free: 60, Gc: 1, Scan: 46})
	fill(s, 46, 16_777_216+12*256+1)
	fill(s, 16, 16_777_216+16, 16_777_216+15, 16_777_216+28, 16_777_216+29)
	for v, wanted := range map[int]answer{16: {errno: api.ErrHeap}, 18: {errno: api.ErrCorrupt}, 19: {errno: api.ErrCorrupt}, 22: {errno: api.ErrCorrupt}, 1: {errno: api.ErrCorrupt}, 15: {errno: api.ErrCorrupt}, 76: {errno: api.ErrCorrupt}, api.Wrap - 1: {errno: api.ErrCorrupt}, 75: {v: 75}, 46: {v: 46}, 0: {}} {
		fill(s, 8, v)
		fill(s, 58, v)
		was := s.All()
		want(t, fmt.Sprintf("Root that is %d", v), do(s, deed{"Root", 0, 0, 0}), wanted)
		want(t, fmt.Sprintf("Load that is %d", v), do(s, deed{"Load", 46, 11, 0}), wanted)
		same(t, fmt.Sprintf("the cells, %d", v), s.All(), was)
	}
	fill(s, 8, 17)
	want(t, "Root of what just fits", do(s, deed{"Root", 0, 0, 0}), answer{v: 60})
	put(s, space.Control{Space: 1, Free: 60})
	fill(s, 8, 17)
	want(t, "Root where no collection goes on", do(s, deed{"Root", 0, 0, 0}), answer{errno: api.ErrCorrupt})
	want(t, "its cell", s.Get(8), 17)
}

// TestP1401OverWhatIsNoObject asks that what a root or a slot has does not hang back a new value, whatever it is, and is not followed then.
func TestP1401OverWhatIsNoObject(t *testing.T) {
	_, s := made(t, api.Geo{Half: 30, Log: 60})
	put(s, space.Control{Space: 1, Free: 48, Gc: 1, Scan: 46})
	fill(s, 16, 16_777_216)
	fill(s, 46, 16_777_216+256)
	for _, v := range []int{5, 16, 17, 76, api.Wrap - 1} {
		fill(s, 8, v)
		fill(s, 47, v)
		play(t, s, []deed{{"SetRoot", 0, 0, 46}, {"Put", 46, 0, 46}}, []answer{{}, {}})
		want(t, "the root", s.Get(8), 46)
		want(t, "the slot", s.Get(47), 46)
		want(t, "Free", s.Get(api.FreeAt), 48)
		want(t, "what has not moved", s.Get(16), 16_777_216)
	}
}

// TestP1402WordsAreNumbers asks that a word is told as it is, whatever it looks like, while a collection goes on and else.
func TestP1402WordsAreNumbers(t *testing.T) {
	g := api.Geo{Half: 30, Log: 60}
	_, s := made(t, g)
	fill(s, 16, 16_777_216+1, 5)
	fill(s, 46, 16_777_216+256+2)
	for _, c := range []space.Control{{Space: 1, Free: 50}, going(g, 1, 4)} {
		put(s, c)
		for _, v := range []int{0, 1, 5, 16, 17, 46, 75, 76, 16_777_216, 16_777_217, 33_554_432 + 16, 33_554_432 + 46, 1 << 31, api.Wrap - 2, api.Wrap - 1} {
			for i := range 2 {
				play(t, s, []deed{{"SetWord", 46, i, v}, {"Word", 46, i, 0}}, []answer{{}, {v: v}})
				want(t, "its cell", s.Get(48+i), v)
			}
		}
		want(t, "what could have moved", s.Get(16), 16_777_216+1)
		want(t, "the control", space.Get(s), c)
	}
}

// TestP1401P1402WordsThatLookLikeHeaders asks that an object is what has a header and its cells, also where it lies inside another one: no more is asked.
func TestP1401P1402WordsThatLookLikeHeaders(t *testing.T) {
	s := pair(t)
	fill(s, 21, 16_777_216+1)
	holdAll(t, "a word like a header", s, []int{20, 21}, between(-1, 2), []int{0, 20, 21})
	play(t, s, []deed{{"Shape", 21, 0, 0}, {"SetWord", 21, 0, 8}, {"Word", 20, 1, 0}, {"SetRoot", 0, 0, 21}, {"Root", 0, 0, 0}}, []answer{{w: 1}, {}, {v: 8}, {}, {v: 21}})
	s.Set(22, 16_777_216+1)
	want(t, "one that would pass Free", do(s, deed{"Shape", 22, 0, 0}), answer{errno: api.ErrArg})
}

// TestP1401P1402AreWorking asks that all that is written is cells as all others: Abort takes it back, it lasts with a Commit.
func TestP1401P1402AreWorking(t *testing.T) {
	d, s := made(t, api.Geo{Half: 30, Log: 60})
	alloc.New(s, 1, 1)
	want(t, "Commit", s.Commit(), api.OK)
	was, room := s.All(), s.Room()
	l := []deed{{"SetRoot", 0, 2, 16}, {"Put", 16, 0, 16}, {"SetWord", 16, 0, 9}}
	play(t, s, l, []answer{{}, {}, {}})
	if got, wanted := s.Changed(), []api.Change{{Cell: 10, Value: 16}, {Cell: 17, Value: 16}, {Cell: 18, Value: 9}}; !slices.Equal(got, wanted) {
		t.Errorf("Changed: %v, not %v", got, wanted)
	}
	want(t, "Room of the log", s.Room(), room)
	s.Abort()
	same(t, "the cells behind Abort", s.All(), was)
	play(t, s, l, []answer{{}, {}, {}})
	want(t, "Commit", s.Commit(), api.OK)
	play(t, s, []deed{{"SetRoot", 0, 2, 0}, {"Put", 16, 0, 0}, {"SetWord", 16, 0, 10}}, []answer{{}, {}, {}})
	d.Crash()
	d.Power()
	s = opened(t, d)
	play(t, s, []deed{{"Root", 0, 2, 0}, {"Load", 16, 0, 0}, {"Word", 16, 0, 0}, {"Shape", 16, 0, 0}}, []answer{{v: 16}, {v: 16}, {v: 9}, {v: 1, w: 1}})
}

// TestP1401MovesAreWorking asks the same of what moves when it is read: Abort takes back the move and the cell, and it is moved anew.
func TestP1401MovesAreWorking(t *testing.T) {
	d, s := made(t, api.Geo{Half: 30, Log: 60})
	put(s, space.Control{Space: 1, Free: 48, Gc: 1, Scan: 46})
	fill(s, 8, 16)
	fill(s, 16, 16_777_216+1, 9, 16_777_216+2, 5, 6)
	fill(s, 46, 16_777_216+256, 18)
	want(t, "Commit", s.Commit(), api.OK)
	was := s.All()
	play(t, s, []deed{{"Root", 0, 0, 0}, {"Load", 46, 0, 0}}, []answer{{v: 48}, {v: 50}})
	s.Abort()
	same(t, "the cells behind Abort", s.All(), was)
	play(t, s, []deed{{"Load", 46, 0, 0}}, []answer{{v: 48}})
	want(t, "Commit", s.Commit(), api.OK)
	play(t, s, []deed{{"Root", 0, 0, 0}}, []answer{{v: 51}})
	d.Crash()
	d.Power()
	s = opened(t, d)
	want(t, "the slot, that was committed", s.Get(47), 48)
	want(t, "the root, that was not", s.Get(8), 16)
	play(t, s, []deed{{"Word", 48, 1, 0}, {"Root", 0, 0, 0}, {"Word", 51, 0, 0}}, []answer{{v: 6}, {v: 51}, {v: 9}})
}

// TestP1401P1402WithoutPower asks that all is read and written, as cells are, of a store whose power went.
func TestP1401P1402WithoutPower(t *testing.T) {
	g := api.Geo{Half: 20, Log: 60}
	d, s := made(t, g)
	put(s, going(g, 1, 2))
	fill(s, 8, 16)
	fill(s, 16, 16_777_216+1, 5)
	fill(s, 36, 16_777_216+256, 16)
	want(t, "Commit", s.Commit(), api.OK)
	want(t, "Root", do(s, deed{"Root", 0, 0, 0}), answer{v: 38})
	d.Arm(0)
	want(t, "Commit without power", s.Commit(), api.ErrOff)
	want(t, "the root behind it", s.Get(8), 16)
	holdAll(t, "without power", s, between(14, 58), between(-1, 2), []int{0, 5, 16, 36, 38})
	play(t, s, []deed{{"Load", 36, 0, 0}, {"SetWord", 38, 0, 6}, {"Root", 0, 0, 0}, {"Word", 38, 0, 0}}, []answer{{v: 38}, {}, {v: 38}, {v: 6}})
}

// chain lays objects that each name the next one, with a word of their own, in front of root 5, and begins to leave their half.
func chain(t *testing.T, s *store.Store, n int) {
	t.Helper()
	for k := range n {
		a, errno := alloc.New(s, 2, 1)
		want(t, "New", errno, api.OK)
		first := do(s, deed{"Root", 0, 5, 0})
		play(t, s, []deed{{"Put", a, 0, first.v}, {"Put", a, 1, a}, {"SetWord", a, 0, 100 + k}, {"SetRoot", 0, 5, a}}, []answer{{}, {}, {}, {}})
	}
	c := space.Get(s)
	base := 16 + len(s.All())/2 - 8
	want(t, "the half in use", c.Space, 0)
	put(s, space.Control{Space: 1, Free: base, Gc: 1, Scan: base})
	want(t, "Commit", s.Commit(), api.OK)
}

// told reads a chain's words, from the root on; each object names itself, too.
func told(t *testing.T, s *store.Store) []int {
	t.Helper()
	var l []int
	for r := do(s, deed{"Root", 0, 5, 0}); r.v != 0 && len(l) < 50; r = do(s, deed{"Load", r.v, 0, 0}) {
		want(t, "errno", r.errno, api.OK)
		want(t, "itself", do(s, deed{"Load", r.v, 1, 0}), answer{v: r.v})
		l = append(l, do(s, deed{"Word", r.v, 0, 0}).v)
	}
	return l
}

// TestP1401NothingIsToldOtherwise reads a chain that moves while it is read, as often as one likes: the words are those that were written, and at the end all of it, and nothing else, lies in the half in use.
func TestP1401NothingIsToldOtherwise(t *testing.T) {
	_, s := made(t, api.Geo{Half: 32, Log: 100})
	chain(t, s, 8)
	for range 3 {
		same(t, "the chain", told(t, s), []int{107, 106, 105, 104, 103, 102, 101, 100})
		want(t, "Used", space.Used(s), 32)
	}
	same(t, "the objects", alloc.Objects(s), []int{48, 52, 56, 60, 64, 68, 72, 76})
	s.Abort()
	want(t, "Used behind Abort", space.Used(s), 0)
	for n := 1; n <= 8; n++ {
		at := do(s, deed{"Root", 0, 5, 0}).v
		for range n - 1 {
			at = do(s, deed{"Load", at, 0, 0}).v
		}
		want(t, "Commit", s.Commit(), api.OK)
		want(t, "Used", space.Used(s), 4*n)
	}
	same(t, "the chain behind that", told(t, s), []int{107, 106, 105, 104, 103, 102, 101, 100})
}

// kinds are cells of all sorts, for a heap of a geometry.
func kinds(r *rand.Rand, g api.Geo) int {
	return []int{0, r.Intn(18 + 2*g.Half), 16_777_216, 16_777_216 + 256*r.Intn(3) + r.Intn(3), 16_777_216 + 256*r.Intn(17) + r.Intn(32), 33_554_432 + r.Intn(20+2*g.Half)}[r.Intn(6)]
}

// drawn is a deed of all kinds: objects and values that may be are as frequent as others.
func drawn(r *rand.Rand, s *store.Store) deed {
	l := append(alloc.Objects(s), 0, r.Intn(len(s.All())+2))
	calls := deeds(l[r.Intn(len(l))], r.Intn(10)-1, l[r.Intn(len(l))])
	return calls[r.Intn(len(calls))]
}

// TestP1401P1402OfManyHeaps lays heaps of all kinds, as they are made and as they never are, and does deeds on them, one behind the other.
func TestP1401P1402OfManyHeaps(t *testing.T) {
	r := rand.New(rand.NewSource(14))
	for _, g := range []api.Geo{{Half: 8, Log: 8}, {Half: 30, Log: 60}, {Half: 60, Log: 60}} {
		_, s := made(t, g)
		for round := range 100 {
			for cell := 8; cell < 16+2*g.Half; cell++ {
				s.Set(cell, kinds(r, g))
			}
			c := going(g, r.Intn(2), r.Intn(g.Half+1))
			if r.Intn(4) == 0 {
				c.Gc, c.Scan = 0, 0
			}
			put(s, c)
			for k := range 300 {
				act(t, fmt.Sprintf("%+v, round %d, deed %d", g, round, k), s, drawn(r, s))
			}
		}
	}
}

// TestP1401P1402OfManyStories makes heaps by deeds alone, and leaves half of them now and then, also where not all has moved.
func TestP1401P1402OfManyStories(t *testing.T) {
	r := rand.New(rand.NewSource(1402))
	for _, g := range []api.Geo{{Half: 20, Log: 60}, {Half: 50, Log: 100}} {
		for story := range 40 {
			_, s := made(t, g)
			for k := range 300 {
				switch r.Intn(12) {
				case 0:
					alloc.New(s, r.Intn(4), r.Intn(4))
				case 1:
					if r.Intn(8) == 0 {
						put(s, going(g, 1-s.Get(api.SpaceAt), 0))
					}
				case 2:
					s.Commit()
				case 3:
					if r.Intn(4) == 0 {
						s.Abort()
					}
				default:
					act(t, fmt.Sprintf("%+v, story %d, step %d", g, story, k), s, drawn(r, s))
				}
			}
		}
	}
}

// TestP1401P1402StoresApart asks that each store's own geometry and cells count.
func TestP1401P1402StoresApart(t *testing.T) {
	_, small := made(t, api.Geo{Half: 8, Log: 8})
	_, great := made(t, api.Geo{Half: 20, Log: 8})
	for _, s := range []*store.Store{small, great} {
		alloc.New(s, 1, 1)
		put(s, space.Control{Free: 24})
		fill(s, 19, 16_777_216+4)
		fill(s, 24, 16_777_216)
	}
	put(great, space.Control{Free: 25})
	play(t, small, []deed{{"SetRoot", 0, 0, 16}, {"Put", 16, 0, 19}, {"SetWord", 16, 0, 5}, {"Shape", 24, 0, 0}}, []answer{{}, {}, {}, {errno: api.ErrArg}})
	play(t, great, []deed{{"Root", 0, 0, 0}, {"Load", 16, 0, 0}, {"Word", 16, 0, 0}, {"Shape", 24, 0, 0}}, []answer{{}, {}, {}, {}})
}

// TestP1401P1402NoStore asks that no store counts ahead of all else that goes wrong.
func TestP1401P1402NoStore(t *testing.T) {
	for _, s := range []*store.Store{nil, {}} {
		for _, a := range append([]int{0, 1, 8, 15, 16, 24}, numbers...) {
			for _, i := range append([]int{0, 7, 8, 9}, numbers...) {
				for _, v := range []int{0, a, i} {
					for _, d := range deeds(a, i, v) {
						want(t, fmt.Sprintf("%+v", d), do(s, d), answer{errno: api.ErrArg})
					}
				}
			}
		}
	}
}
