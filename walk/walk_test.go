package walk_test

import (
	"fmt"
	"math"
	"slices"
	"strings"
	"testing"

	"flitting/alloc"
	"flitting/api"
	"flitting/gc"
	"flitting/graph"
	"flitting/sector"
	"flitting/space"
	"flitting/store"
	"flitting/walk"
)

func want[T comparable](t *testing.T, what string, got, wanted T) {
	t.Helper()
	if got != wanted {
		t.Errorf("%s: %#v, not %#v", what, got, wanted)
	}
}

// same holds lists against each other; one that is nil and one that is empty are the same.
func same(t *testing.T, what string, got, wanted []int) {
	t.Helper()
	if !slices.Equal(got, wanted) {
		t.Errorf("%s: %v, not %v", what, got, wanted)
	}
}

// made is a disk and a store that was formatted.
func made(t *testing.T, g api.Geo) (*sector.Disk, *store.Store) {
	t.Helper()
	d := sector.New(1000)
	want(t, "Format", store.Format(d, g), api.OK)
	return d, opened(t, d)
}

func opened(t *testing.T, d *sector.Disk) *store.Store {
	t.Helper()
	s, e := store.Open(d)
	want(t, "Open", e, api.OK)
	return s
}

// put gives the cells of the control values as they are, whether they may be or not.
func put(s *store.Store, c space.Control) { fill(s, 0, c.Space, c.Free, c.Gc, c.Scan) }

// fill gives the cells from at on values.
func fill(s *store.Store, at int, values ...int) {
	for i, v := range values {
		s.Set(at+i, v)
	}
}

// back gives each cell the value that it had.
func back(s *store.Store, cells []int) {
	for cell, v := range s.All() {
		if v != cells[cell] {
			s.Set(cell, cells[cell])
		}
	}
}

// going is the control of a collection that goes on into a half.
func going(g api.Geo, no, used int) space.Control {
	base := 16 + no*g.Half
	return space.Control{Space: no, Free: base + used, Gc: 1, Scan: base}
}

// isRight tells whether the control of some cells may be, by the document's words.
func isRight(cells []int) bool {
	if len(cells) == 0 {
		return false
	}
	half := (len(cells) - 16) / 2
	no, free, gc, scan := cells[0], cells[1], cells[2], cells[3]
	if no != 0 && no != 1 {
		return false
	}
	base := 16 + no*half
	return base <= free && free <= base+half && (gc == 0 && scan == 0 || gc == 1 && base <= scan && scan <= free)
}

// form is how many slots and words an object has.
type form struct{ slots, words int }

func (f form) size() int { return 1 + f.slots + f.words }

func (f form) header() int { return 16_777_216 + 256*f.slots + f.words }

// forms are those of all headers, by the document's words.
var forms = laidForms()

func laidForms() map[int]form {
	m := map[int]form{}
	for slots := 0; slots <= 15; slots++ {
		for words := 0; words <= 30; words++ {
			f := form{slots, words}
			m[f.header()] = f
		}
	}
	return m
}

// lies tells where an object lies as things are, and the cell up to which it may go there, by the document's words.
func lies(cells []int, a int) (at, end int, is bool) {
	half := (len(cells) - 16) / 2
	used, left := 16+cells[0]*half, 16+half-cells[0]*half
	if a == 0 || used <= a && a < used+half {
		return a, cells[1], true
	}
	if cells[2] == 0 || a < left || a >= left+half {
		return 0, 0, false
	}
	if to := cells[a] - 33_554_432; used <= to && to < used+half {
		return to, cells[1], true
	}
	f, is := forms[cells[a]]
	return a, left + half, is && a+f.size() <= left+half
}

// answer is what is told of a graph: how many cells it needs is told by Live alone.
type answer struct {
	text  string
	errno api.Errno
	live  int
}

// wrong is an error as an answer: no graph stands beside it.
func wrong(errno api.Errno) answer { return answer{"r", errno, 0} }

// asked is what must be told of what is reached from some objects, by the document's words.
func asked(cells []int, refs ...int) answer {
	if !isRight(cells) || len(refs) > 8 {
		return wrong(api.ErrArg)
	}
	var met []int
	sound, live := true, 0
	numbers := func(named []int) (text string) {
		for _, ref := range named {
			at, _, is := lies(cells, ref)
			sound = sound && is
			if is && at != 0 && !slices.Contains(met, at) {
				met = append(met, at)
			}
			text += fmt.Sprintf(" %d", slices.Index(met, at)+1)
		}
		return text
	}
	text := "r" + numbers(append(slices.Clone(refs), make([]int, 8-len(refs))...))
	for k := 0; sound && k < len(met); k++ {
		at := met[k]
		f, is := forms[cells[at]]
		if _, end, _ := lies(cells, at); !is || at+f.size() > end {
			sound = false
			break
		}
		text += ";" + numbers(cells[at+1:at+1+f.slots]) + "|"
		for _, v := range cells[at+1+f.slots : at+f.size()] {
			text += fmt.Sprintf(" %d", v)
		}
		live += f.size()
	}
	if !sound {
		return wrong(api.ErrCorrupt)
	}
	return answer{text, api.OK, live}
}

// text tells a graph.
func text(g api.Graph) string {
	var t strings.Builder
	t.WriteString("r")
	list := func(numbers []int) {
		for _, v := range numbers {
			fmt.Fprintf(&t, " %d", v)
		}
	}
	list(g.Roots)
	for _, n := range g.Nodes {
		t.WriteString(";")
		list(n.Slots)
		t.WriteString("|")
		list(n.Words)
	}
	return t.String()
}

// told is what Of and Live tell.
func told(s *store.Store) answer {
	g, e := walk.Of(s)
	return answer{text(g), e, walk.Live(s)}
}

// from is what From tells.
func from(s *store.Store, refs ...int) answer {
	g, e := walk.From(s, refs...)
	return answer{text(g), e, graph.Size(g)}
}

// lists are all lists of numbers that a graph has.
func lists(g api.Graph) []*[]int {
	l := []*[]int{&g.Roots}
	for i := range g.Nodes {
		l = append(l, &g.Nodes[i].Slots, &g.Nodes[i].Words)
	}
	return l
}

// spoil writes another number into each cell of each list of a graph, also into those behind it; false, if two lists share one.
func spoil(g api.Graph) bool {
	for i, l := range lists(g) {
		r := (*l)[:cap(*l)]
		for j := range r {
			r[j] = -1000 - i
		}
	}
	apart := true
	for i, l := range lists(g) {
		for _, v := range (*l)[:cap(*l)] {
			apart = apart && v == -1000-i
		}
	}
	clear(g.Nodes[:cap(g.Nodes)])
	return apart
}

const behind = -77

// roomy is a list just the same, with room behind it, in which stands a number that nobody may write into.
func roomy(l []int) []int {
	r := append(slices.Clone(l), slices.Repeat([]int{behind}, 9)...)
	return r[:len(l):len(r)]
}

// isWhole tells whether nothing was written into a list of roomy, nor behind it.
func isWhole(r, l []int) bool {
	return slices.Equal(r[:cap(r)], append(slices.Clone(l), slices.Repeat([]int{behind}, 9)...))
}

// hold holds what is told of a heap, from its roots and from some objects, against the document's words, and that nothing is done.
func hold(t *testing.T, what string, s *store.Store, refs ...int) {
	t.Helper()
	cells, in := s.All(), roomy(refs)
	roots := make([]int, 8)
	if len(cells) > 0 {
		copy(roots, cells[8:16])
	}
	want(t, what+": Of, Live", told(s), asked(cells, roots...))
	wanted := asked(cells, refs...)
	g, e := walk.From(s, in...)
	want(t, fmt.Sprintf("%s: From %v", what, refs), answer{text(g), e, graph.Size(g)}, wanted)
	want(t, what+": lists are apart", spoil(g), true)
	want(t, what+": what was handed in is as it was", isWhole(in, refs), true)
	want(t, fmt.Sprintf("%s: From %v anew", what, refs), from(s, in...), wanted)
	if now := s.All(); !slices.Equal(now, cells) {
		t.Errorf("%s: the cells: %v, not %v", what, now, cells)
	}
}

// few is a store with objects at 16 (slots: 21, 16; a word that looks like a cell), 20 (lost), 21 (a slot: none; two words), 25 (lost, names 16); the root 2 is 16.
func few(t *testing.T) *store.Store {
	t.Helper()
	_, s := made(t, api.Geo{Half: 30, Log: 60})
	for _, shape := range []form{{2, 1}, {0, 0}, {1, 2}, {1, 0}} {
		alloc.New(s, shape.slots, shape.words)
	}
	fill(s, 17, 21, 16, 20)
	fill(s, 23, 7, api.Wrap-1)
	fill(s, 26, 16)
	fill(s, 10, 16)
	return s
}

func TestP1701Examples(t *testing.T) {
	s := few(t)
	want(t, "Of", told(s), answer{"r 0 0 1 0 0 0 0 0; 2 1| 20; 0| 7 4294967295", api.OK, 8})
	want(t, "From", from(s, 25, 0, 20), answer{"r 1 0 2 0 0 0 0 0; 3|;|; 4 3| 20; 0| 7 4294967295", api.OK, 11})
	want(t, "From nothing", from(s), answer{"r 0 0 0 0 0 0 0 0", api.OK, 0})
	fill(s, 10, 0)
	want(t, "Of nothing", told(s), answer{"r 0 0 0 0 0 0 0 0", api.OK, 0})
	fill(s, 15, 22)
	want(t, "Of no object", told(s), wrong(api.ErrCorrupt))
	want(t, "From what may be", from(s, 21), answer{"r 1 0 0 0 0 0 0 0; 0| 7 4294967295", api.OK, 4})
	want(t, "From no object", from(s, 22), wrong(api.ErrCorrupt))
	want(t, "From too many", from(s, 0, 0, 0, 0, 0, 0, 0, 0, 0), wrong(api.ErrArg))
}

// TestP1701WhatGoesWrongFirst asks, where several go wrong, for the one that is named first.
func TestP1701WhatGoesWrongFirst(t *testing.T) {
	s := few(t)
	fill(s, 8, 99)
	for _, c := range []space.Control{{Free: 5}, {Free: 15}, {Free: 47}, {Space: 1, Free: 27}, {Space: 2, Free: 27}, {Free: 27, Scan: 16}, {Free: 27, Gc: 1}, {Free: 27, Gc: 1, Scan: 28}, {Free: 27, Gc: 2, Scan: 16}} {
		put(s, c)
		what := fmt.Sprintf("%+v", c)
		want(t, what+": Of", told(s), wrong(api.ErrArg))
		want(t, what+": From nothing", from(s), wrong(api.ErrArg))
		want(t, what+": From no object", from(s, 99), wrong(api.ErrArg))
	}
	put(s, space.Control{Free: 27})
	want(t, "Of", told(s), wrong(api.ErrCorrupt))
	want(t, "From too many, one of them no object", from(s, 99, 0, 0, 0, 0, 0, 0, 0, 0), wrong(api.ErrArg))
	want(t, "From too many, the last one no object", from(s, 0, 0, 0, 0, 0, 0, 0, 0, 99), wrong(api.ErrArg))
}

// TestP1701OfEveryControl holds all calls with each control about those that may be.
func TestP1701OfEveryControl(t *testing.T) {
	_, s := made(t, api.Geo{Half: 8, Log: 8})
	fill(s, 8, 16, 0, 28, 24, 20)
	for cell := 16; cell < 32; cell += 4 {
		fill(s, cell, 16_777_216+256+1, 48-cell, 16_777_216+1, 5)
	}
	for no := 0; no <= 2; no++ {
		for free := 14; free <= 34; free++ {
			for gc := 0; gc <= 2; gc++ {
				for _, scan := range []int{0, 1, 15, 16, 18, 20, 23, 24, 25, 28, 32, 33, api.Wrap - 1} {
					c := space.Control{Space: no, Free: free, Gc: gc, Scan: scan}
					put(s, c)
					hold(t, fmt.Sprintf("%+v", c), s, 0, 20)
					hold(t, fmt.Sprintf("%+v", c), s, 28)
					hold(t, fmt.Sprintf("%+v", c), s)
				}
			}
		}
	}
	for cell := range 4 {
		put(s, space.Control{Free: 20})
		s.Set(cell, api.Wrap-1)
		hold(t, fmt.Sprintf("cell %d the greatest", cell), s, 16)
	}
}

// TestP1701OfEveryCell holds what is told of each cell, and of what lies about it, on heaps in which all cells are alike: headers of some form, forwards, or neither.
func TestP1701OfEveryCell(t *testing.T) {
	g := api.Geo{Half: 8, Log: 4}
	_, s := made(t, g)
	for no := range 2 {
		base, left := 16+no*g.Half, 16+(1-no)*g.Half
		for _, v := range []int{0, 1, 16, base, left, 16_777_215, 16_777_216, 16_777_217, 16_777_216 + 256, 16_777_216 + 7, 16_777_216 + 31, 16_777_216 + 256*16, 33_554_432, 33_554_432 + base, 33_554_432 + left, 33_554_432 + base + 7, 33_554_432 + base + 8, api.Wrap - 1} {
			for cell := 16; cell < 32; cell++ {
				s.Set(cell, v)
			}
			for used := range 9 {
				for _, c := range []space.Control{{Space: no, Free: base + used}, going(g, no, used)} {
					put(s, c)
					for cell := range 35 {
						fill(s, 9, cell)
						hold(t, fmt.Sprintf("%+v, all cells %d", c, v), s, cell, 0, left, 0)
					}
				}
			}
		}
	}
}

// TestP1701OfEveryForm reads objects of each form: in the half in use with Free at each place about their end, and in the half that is being left about its end.
func TestP1701OfEveryForm(t *testing.T) {
	g := api.Geo{Half: 70, Log: 60}
	_, s := made(t, g)
	for header, f := range forms {
		no := (f.slots + f.words) % 2
		base, left := 16+70*no, 86-70*no
		for cell := 16; cell < 156; cell++ {
			s.Set(cell, 16_777_216)
		}
		for passes := -1; passes <= 1; passes++ {
			what := fmt.Sprintf("half %d, header %d, %d passes", no, header, passes)
			for _, c := range []space.Control{{Space: no, Free: base + 20 + f.size() - passes}, going(g, no, 20+f.size()-passes)} {
				put(s, c)
				fill(s, base+20, header)
				for k := 1; k < f.size(); k++ {
					s.Set(base+20+k, base+k%3)
				}
				hold(t, what, s, base+20)
			}
			put(s, going(g, no, 20))
			at := left + 70 - f.size() + passes
			fill(s, at, header)
			for k := 1; k < f.size(); k++ {
				s.Set(at+k, left+k%3)
			}
			hold(t, what+", being left", s, at)
			fill(s, at, 16_777_216)
		}
	}
}

// TestP1701HowManyRefs asks for each number of objects, that those that lack are none, and that one is named once, however often.
func TestP1701HowManyRefs(t *testing.T) {
	s := few(t)
	many := slices.Repeat([]int{20, 0, 21, 20}, 500)
	texts := []string{"r 0 0 0 0 0 0 0 0", "r 1 0 0 0 0 0 0 0;|", "r 1 0 0 0 0 0 0 0;|", "r 1 0 2 0 0 0 0 0;|; 0| 7 4294967295", "r 1 0 2 1 0 0 0 0;|; 0| 7 4294967295", "r 1 0 2 1 1 0 0 0;|; 0| 7 4294967295", "r 1 0 2 1 1 0 0 0;|; 0| 7 4294967295", "r 1 0 2 1 1 0 2 0;|; 0| 7 4294967295", "r 1 0 2 1 1 0 2 1;|; 0| 7 4294967295"}
	for n := range 2000 {
		if n > 20 && n%97 != 0 {
			continue
		}
		got := from(s, many[:n]...)
		if n < len(texts) {
			want(t, fmt.Sprintf("%d of them", n), got, answer{texts[n], api.OK, []int{0, 1, 1, 5, 5, 5, 5, 5, 5}[n]})
		} else {
			want(t, fmt.Sprintf("%d of them", n), got, wrong(api.ErrArg))
		}
		hold(t, fmt.Sprintf("%d of them", n), s, many[:n]...)
		hold(t, fmt.Sprintf("%d, none of them", n), s, make([]int, n)...)
	}
}

// TestP1701OfNumbersWithoutEnd names what no cell is, each as each of the objects.
func TestP1701OfNumbersWithoutEnd(t *testing.T) {
	l := []int{math.MinInt, math.MinInt + 1, math.MinInt + 16, math.MaxInt, math.MaxInt - 16, -1, -16, 1, 7, 8, 15, 76, 77, 1000}
	for k := 6; k < 63; k++ {
		for by := -1; by <= 1; by++ {
			l = append(l, 1<<k+by, -1<<k+by, 1<<k+16+by)
		}
	}
	for _, c := range []space.Control{{Free: 27}, going(api.Geo{Half: 30}, 1, 0)} {
		s := few(t)
		put(s, c)
		for _, v := range l {
			if 16 <= v && v < 76 {
				continue
			}
			for n := range 8 {
				refs := []int{16, 16, 16, 16, 16, 16, 16, 16}
				refs[n] = v
				want(t, fmt.Sprintf("%+v: the object %d is %d", c, n, v), from(s, refs[:n+1]...), wrong(api.ErrCorrupt))
				want(t, fmt.Sprintf("%+v: the object %d of all is %d", c, n, v), from(s, refs...), wrong(api.ErrCorrupt))
			}
		}
	}
}

// TestP1701WhatIsMetFirst asks for the order of the numbers: roots from the first one on, then slots of each object in the order of their numbers, whatever the order in which they lie.
func TestP1701WhatIsMetFirst(t *testing.T) {
	_, s := made(t, api.Geo{Half: 60, Log: 100})
	for k := range 12 {
		a, _ := alloc.New(s, 3, 1) // 16, 21, .. 71
		fill(s, a+4, k)
	}
	fill(s, 8, 71, 0, 16, 66, 71)
	fill(s, 72, 41, 21, 41)
	fill(s, 17, 61, 0, 36)
	fill(s, 67, 16, 26, 71)
	fill(s, 42, 31, 51, 21)
	fill(s, 22, 51, 56, 31)
	wanted := "r 1 0 2 3 1 0 0 0; 4 5 4| 11; 6 0 7| 0; 2 8 1| 10; 9 10 5| 5; 10 11 9| 1; 0 0 0| 9; 0 0 0| 4; 0 0 0| 2; 0 0 0| 3; 0 0 0| 7; 0 0 0| 8"
	want(t, "Of", told(s), answer{wanted, api.OK, 55})
	want(t, "From", from(s, 71, 0, 16, 66, 71), answer{wanted, api.OK, 55})
	hold(t, "all", s, 71, 66, 61, 46)
	gc.Start(s)
	for !over(t, s) {
		want(t, "while it is collected", told(s), answer{wanted, api.OK, 55})
	}
	want(t, "behind that", told(s), answer{wanted, api.OK, 55})
}

// over scans one object.
func over(t *testing.T, s *store.Store) bool {
	t.Helper()
	is, e := gc.Step(s, 1)
	want(t, "Step", e, api.OK)
	return is
}

// TestP1701EachRoot asks for each root alone, and that cells beside the roots are none.
func TestP1701EachRoot(t *testing.T) {
	for root := range 8 {
		s := few(t)
		fill(s, 4, 99, 99, 99, 99)
		fill(s, 10, 0)
		fill(s, 8+root, 20)
		texts := []string{"0", "0", "0", "0", "0", "0", "0", "0"}
		texts[root] = "1"
		wanted := answer{"r " + strings.Join(texts, " ") + ";|", api.OK, 1}
		want(t, fmt.Sprintf("the root %d", root), told(s), wanted)
		refs := make([]int, root+1)
		refs[root] = 20
		want(t, fmt.Sprintf("the object %d", root), from(s, refs...), wanted)
		for _, v := range []int{1, 15, 17, 45, 46, 76, api.Wrap - 1} {
			fill(s, 8+root, v)
			hold(t, fmt.Sprintf("the root %d is %d", root, v), s)
			want(t, fmt.Sprintf("the root %d is %d", root, v), told(s), wrong(api.ErrCorrupt))
		}
	}
}

// TestP1701EachSlot asks that each slot that names no object is told, wherever it is reached: also of the last object that is met.
func TestP1701EachSlot(t *testing.T) {
	_, s := made(t, api.Geo{Half: 100, Log: 60})
	for k := range 6 {
		alloc.New(s, 15, 0)
		fill(s, 17+16*k, 16, (16+16*(k+1))%112)
	}
	fill(s, 8, 16)
	was := s.All()
	want(t, "sound", told(s).errno, api.OK)
	for n := range 6 {
		for slot := range 15 {
			for _, v := range []int{1, 15, 17, 115, 116, 216, api.Wrap - 1} {
				fill(s, 17+16*n+slot, v)
				what := fmt.Sprintf("the slot %d of the object %d is %d", slot, n, v)
				want(t, what+": Of", told(s), wrong(api.ErrCorrupt))
				want(t, what+": From", from(s, 0, 96), wrong(api.ErrCorrupt))
				back(s, was)
			}
			fill(s, 18, 0)
			fill(s, 17+16*n+slot, 17)
			what := fmt.Sprintf("the slot %d of the object %d, which nobody names", slot, n)
			hold(t, what, s, 0, 16+16*n)
			want(t, what, told(s).errno, map[bool]api.Errno{true: api.ErrCorrupt, false: api.OK}[n == 0])
			back(s, was)
		}
	}
}

// TestP1701WhatIsNotReached asks that what nobody names may be as it likes, and that words name nothing.
func TestP1701WhatIsNotReached(t *testing.T) {
	for _, v := range []int{0, 1, 22, 99, 16_777_216 + 31, 33_554_432 + 50, api.Wrap - 1} {
		s := few(t)
		fill(s, 20, v)
		fill(s, 25, v, v)
		fill(s, 19, v)
		fill(s, 27, v, v, v)
		fill(s, 46, v)
		what := fmt.Sprintf("what is not reached is %d", v)
		want(t, what, told(s), answer{fmt.Sprintf("r 0 0 1 0 0 0 0 0; 2 1| %d; 0| 7 4294967295", v), api.OK, 8})
		hold(t, what, s, 21)
	}
}

// TestP1701WhatWasMoved asks that an object is one, whether it is named where it was or where it is; that what is behind a forward must lie below Free of the half in use; and that a forward is followed once.
func TestP1701WhatWasMoved(t *testing.T) {
	g := api.Geo{Half: 30, Log: 60}
	for no := range 2 {
		base, left := 16+30*no, 46-30*no
		_, s := made(t, g)
		put(s, going(g, no, 6))
		fill(s, base, 16_777_216+256*2, left+9, base, 16_777_216+256*2, left, base+3)
		fill(s, left, 33_554_432+base, 5, 5, 33_554_432+base+3)
		fill(s, left+9, 16_777_216+256*3+1, base, left, left+9, 8)
		fill(s, 8, left, base, left+9, left+3, base+3)
		what := fmt.Sprintf("half %d", no)
		want(t, what, told(s), answer{"r 1 1 2 3 3 0 0 0; 2 1|; 1 1 2| 8; 1 3|", api.OK, 11})
		hold(t, what, s, base+3, left+3, left, base)
		for to := -1; to < 80; to++ {
			fill(s, left, 33_554_432+to)
			hold(t, fmt.Sprintf("%s, moved to %d", what, to), s, left)
			hold(t, fmt.Sprintf("%s, moved to %d", what, to), s, base, left+9)
		}
		fill(s, left, 33_554_432+base, 33_554_432+left, 33_554_432+base+5)
		fill(s, base+5, 33_554_432+base)
		want(t, what+": a forward to one that moved", from(s, left+1), wrong(api.ErrCorrupt))
		want(t, what+": a forward to a forward", from(s, left+2), wrong(api.ErrCorrupt))
		want(t, what+": a forward in the half in use", from(s, base+5), wrong(api.ErrCorrupt))
		put(s, space.Control{Space: no, Free: base + 6})
		want(t, what+": no collection goes on", from(s, left), wrong(api.ErrCorrupt))
		want(t, what+": no collection goes on, what did not move", from(s, left+9), wrong(api.ErrCorrupt))
	}
}

// TestP1701UpToFree asks that an object of the half in use ends below Free, and one of the half that is being left below the end of that half, and no sooner.
func TestP1701UpToFree(t *testing.T) {
	g := api.Geo{Half: 30, Log: 60}
	for no := range 2 {
		for used := range 31 {
			base, left := 16+30*no, 46-30*no
			for _, c := range []space.Control{{Space: no, Free: base + used}, going(g, no, used)} {
				_, s := made(t, g)
				put(s, c)
				fill(s, base, slices.Repeat([]int{16_777_216 + 2}, 30)...)
				fill(s, left, slices.Repeat([]int{16_777_216 + 256 + 1}, 30)...)
				for k := range 30 {
					what := fmt.Sprintf("%+v, the cell %d", c, k)
					want(t, what, from(s, base+k).errno, map[bool]api.Errno{true: api.OK, false: api.ErrCorrupt}[k+3 <= used])
					fill(s, left+k, 16_777_216+256+1, 0)
					want(t, what+" of the other half", from(s, left+k).errno, map[bool]api.Errno{true: api.OK, false: api.ErrCorrupt}[c.Gc == 1 && k+3 <= 30])
					hold(t, what, s, base+k)
					hold(t, what, s, left+k)
				}
			}
		}
	}
}

// TestP1701OneInsideAnother reads cells that are of several objects: where they begin tells them apart.
func TestP1701OneInsideAnother(t *testing.T) {
	_, s := made(t, api.Geo{Half: 30, Log: 60})
	put(s, space.Control{Free: 22})
	fill(s, 16, 16_777_216+256+3, 18, 16_777_216+2, 16_777_216, 16_777_216+256, 16)
	want(t, "From", from(s, 19, 20), answer{"r 1 2 0 0 0 0 0 0;|; 3|; 4| 16777218 16777216 16777472;| 16777216 16777472", api.OK, 11})
	fill(s, 21, 20)
	hold(t, "names itself", s, 18, 20, 16, 18)
}

// TestP1701OfTheGreatest reads as many objects as there may be: all cells of both halves are one, in one line, or each one is named by all.
func TestP1701OfTheGreatest(t *testing.T) {
	g := api.Geo{Half: 400, Log: 300}
	_, s := made(t, g)
	put(s, going(g, 1, 400))
	for cell := 16; cell < 816; cell++ {
		s.Set(cell, 16_777_216)
	}
	hold(t, "no slots", s, 16, 815)
	for k := range 25 {
		for _, base := range []int{16, 416} {
			fill(s, base+16*k, 16_777_216+256*15)
			for i := range 15 {
				s.Set(base+16*k+1+i, []int{base, 432 - base}[i%2]+16*((k+i)%25))
			}
		}
	}
	fill(s, 8, 16)
	hold(t, "all that there is", s, 800)
	want(t, "Live", walk.Live(s), 800)
	for k := range 200 {
		fill(s, 16+2*k, 16_777_216+256, 416+2*k)
		fill(s, 416+2*k, 16_777_216+256, (18+2*k)%416)
	}
	want(t, "a line", told(s).live, 800)
	hold(t, "a line", s, 416)
}

// TestP1701NothingIsMoved asks that reading leaves a collection where it is, and that where things lie makes no difference to what is told.
func TestP1701NothingIsMoved(t *testing.T) {
	s := few(t)
	wanted, all := told(s), from(s, 25, 20)
	regs, e := gc.Start(s, 25, 20)
	want(t, "Start", e, api.OK)
	for k := range 5 {
		what := fmt.Sprintf("behind %d steps", k)
		want(t, what+": Of", told(s), wanted)
		want(t, what+": From registers", from(s, regs...), all)
		if k < 4 {
			want(t, what+": From where they were", from(s, 25, 20), all)
		}
		hold(t, what, s, regs...)
		want(t, what+": is it over", over(t, s), k >= 3)
	}
	same(t, "it was collected", alloc.Objects(s), []int{46, 50, 52, 53})
}

// TestP1701IsOfWhatIsWorking asks for the cells as they are, committed or not, and that nothing that is told is kept.
func TestP1701IsOfWhatIsWorking(t *testing.T) {
	s := few(t)
	want(t, "Commit", s.Commit(), api.OK)
	was := told(s)
	fill(s, 17, 0)
	now := told(s)
	want(t, "what is working", now, answer{"r 0 0 1 0 0 0 0 0; 0 1| 20", api.OK, 4})
	want(t, "how much is working", len(s.Changed()), 1)
	s.Abort()
	want(t, "behind Abort", told(s), was)
	fill(s, 10, 20)
	want(t, "another root", told(s), answer{"r 0 0 1 0 0 0 0 0;|", api.OK, 1})
}

// TestP1701WithoutPower asks that a store whose power went is read, as its cells are.
func TestP1701WithoutPower(t *testing.T) {
	d, s := made(t, api.Geo{Half: 30, Log: 60})
	alloc.New(s, 1, 1)
	fill(s, 8, 16)
	s.Commit()
	fill(s, 17, 16)
	d.Arm(0)
	want(t, "Commit", s.Commit(), api.ErrOff)
	want(t, "Of", told(s), answer{"r 1 0 0 0 0 0 0 0; 0| 0", api.OK, 3})
	hold(t, "without power", s, 16, 16)
}

// TestP1701StoresApart asks that each store's own geometry and cells count.
func TestP1701StoresApart(t *testing.T) {
	_, small := made(t, api.Geo{Half: 8, Log: 8})
	_, great := made(t, api.Geo{Half: 20, Log: 8})
	for _, s := range []*store.Store{small, great} {
		put(s, space.Control{Space: 1, Free: 27, Gc: 1, Scan: 24})
		fill(s, 24, 16_777_216+2)
		fill(s, 8, 24)
	}
	want(t, "the smaller one", told(small), answer{"r 1 0 0 0 0 0 0 0;| 0 0", api.OK, 3})
	want(t, "the greater one", told(great), wrong(api.ErrArg))
	put(great, space.Control{Space: 1, Free: 36, Gc: 1, Scan: 36})
	want(t, "the greater one, being left", told(great), answer{"r 1 0 0 0 0 0 0 0;| 0 0", api.OK, 3})
	want(t, "the smaller one, still", told(small), answer{"r 1 0 0 0 0 0 0 0;| 0 0", api.OK, 3})
}

// TestP1701P1702NoStore asks that no store is ErrArg, whatever else is handed in.
func TestP1701P1702NoStore(t *testing.T) {
	for _, s := range []*store.Store{nil, {}} {
		want(t, "Of, Live", told(s), wrong(api.ErrArg))
		for _, refs := range [][]int{nil, {0}, {16}, {-1}, {math.MinInt, math.MaxInt}, make([]int, 8), make([]int, 9), make([]int, 900)} {
			hold(t, "no store", s, refs...)
		}
		for _, g := range []api.Graph{{}, graphOf(nil), graphOf(nil, api.Node{}), graphOf([]int{1}, api.Node{}), graphOf([]int{2}, api.Node{})} {
			want(t, "Build "+text(g), walk.Build(s, g), api.ErrArg)
		}
	}
}
