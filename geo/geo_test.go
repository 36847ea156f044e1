package geo_test

import (
	"fmt"
	"math"
	"testing"

	"flitting/api"
	"flitting/geo"
)

func want[T comparable](t *testing.T, what string, got, wanted T) {
	t.Helper()
	if got != wanted {
		t.Errorf("%s: %#v, not %#v", what, got, wanted)
	}
}

// told is all that is told of a geometry by itself.
type told struct {
	right                        bool
	cells, pages, logAt, sectors int
}

func toldOf(g api.Geo) told {
	return told{geo.Right(g), geo.Cells(g), geo.Pages(g), geo.LogAt(g), geo.Sectors(g)}
}

// laid is what lies where in a geometry that may be, laid out piece by piece: of each cell its half (-1: none), of each sector what it has.
type laid struct {
	halves  []int
	sectors []string
	pages   int
}

// lay lays out each cell and each sector by the document's words.
func lay(g api.Geo) laid {
	var l laid
	put := func(space, n int) {
		for range n {
			l.halves = append(l.halves, space)
		}
	}
	put(-1, 16)
	put(0, g.Half)
	put(1, g.Half)
	write := func(what string, n int) {
		for i := range n {
			l.sectors = append(l.sectors, fmt.Sprint(what, " ", i))
		}
	}
	write("crown", 2)
	for left := len(l.halves); left > 0; left -= 16 {
		write(fmt.Sprint("page ", l.pages, " slot 0"), 3)
		write(fmt.Sprint("page ", l.pages, " slot 1"), 3)
		l.pages++
	}
	write("log", g.Log)
	return l
}

// first tells where a list has something first, 0 if it has not.
func first[T comparable](l []T, what T) int {
	for i, v := range l {
		if v == what {
			return i
		}
	}
	return 0
}

// edges are geometries that may be: each edge of both numbers with each other one, and where one more page begins.
func edges() []api.Geo {
	var l []api.Geo
	for _, half := range []int{8, 9, 15, 16, 17, 23, 24, 25, 31, 32, 33, 100, 101, 255, 256, 257, 392, 393, 399, 400} {
		for _, log := range []int{4, 5, 7, 8, 100, 255, 256, 257, 299, 300} {
			l = append(l, api.Geo{Half: half, Log: log})
		}
	}
	return l
}

// wrongs are geometries that may not be: by one number, or by both.
func wrongs() []api.Geo {
	l := []api.Geo{{}, {Half: 4, Log: 8}, {Half: 300, Log: 400}, {Half: 7, Log: 3}, {Half: 401, Log: 301}, {Half: 401, Log: 3}, {Half: 7, Log: 301}}
	far := []int{0, -1, -4, -8, -300, -400, 402, 1000, 1 << 31, api.Wrap - 1, api.Wrap, api.Wrap + 8, api.Wrap + 300, math.MinInt, math.MinInt + 8, math.MinInt + 300, math.MaxInt, math.MaxInt - 1}
	for _, v := range append(far, 7, 401) {
		for _, log := range []int{4, 5, 150, 299, 300} {
			l = append(l, api.Geo{Half: v, Log: log})
		}
	}
	for _, v := range append(far, 3, 301) {
		for _, half := range []int{8, 9, 200, 399, 400} {
			l = append(l, api.Geo{Half: half, Log: v})
		}
	}
	for _, v := range far {
		for _, w := range far {
			l = append(l, api.Geo{Half: v, Log: w})
		}
	}
	return l
}

// rest are numbers of cells, pages, slots and spaces that are none of any geometry.
func rest() []int {
	return []int{-1, -2, -8, -16, -400, 1 << 31, api.Wrap, api.Wrap + 1, api.Wrap + 16, math.MinInt, math.MinInt + 1, math.MinInt / 2, math.MaxInt, math.MaxInt - 1, math.MaxInt/6 + 1, math.MaxInt/3 + 1}
}

func TestP801RightOfEveryHalfAndLog(t *testing.T) {
	for half := -3; half < 410; half++ {
		for log := -3; log < 310; log++ {
			is := half >= 8 && half <= 400 && log >= 4 && log <= 300
			want(t, fmt.Sprint("Right of ", half, " ", log), geo.Right(api.Geo{Half: half, Log: log}), is)
		}
	}
}

func TestP801WrongGeometries(t *testing.T) {
	for _, g := range wrongs() {
		want(t, fmt.Sprintf("told of %+v", g), toldOf(g), told{})
		for space := -1; space < 3; space++ {
			want(t, fmt.Sprintf("Base(%+v, %d)", g, space), geo.Base(g, space), 0)
			want(t, fmt.Sprintf("End(%+v, %d)", g, space), geo.End(g, space), 0)
			for _, cell := range append(rest(), 0, 1, 15, 16, 17, 23, 24, g.Half, 16+g.Half, 15+g.Half) {
				want(t, fmt.Sprintf("In(%+v, %d, %d)", g, space, cell), geo.In(g, space, cell), false)
			}
		}
	}
}

func TestP801Examples(t *testing.T) {
	want(t, "Geo{8, 4}", toldOf(api.Geo{Half: 8, Log: 4}), told{true, 32, 2, 14, 18})
	want(t, "Geo{9, 4}, that fills up a third page", toldOf(api.Geo{Half: 9, Log: 4}), told{true, 34, 3, 20, 24})
	want(t, "Geo{16, 300}, that just fills three", toldOf(api.Geo{Half: 16, Log: 300}), told{true, 48, 3, 20, 320})
	want(t, "the greatest", toldOf(api.Geo{Half: 400, Log: 300}), told{true, 816, 51, 308, 608})
}

func TestP801CellsAndPagesOfEveryHalf(t *testing.T) {
	for half := 8; half <= 400; half++ {
		g := api.Geo{Half: half, Log: 4 + half%297}
		l := lay(g)
		want(t, fmt.Sprintf("Cells(%+v)", g), geo.Cells(g), len(l.halves))
		want(t, fmt.Sprintf("Pages(%+v)", g), geo.Pages(g), l.pages)
	}
}

func TestP801BaseAndEndOfEveryHalf(t *testing.T) {
	for half := 8; half <= 400; half++ {
		g := api.Geo{Half: half, Log: 300 - half%297}
		l := lay(g)
		want(t, fmt.Sprintf("Base(%+v, 0)", g), geo.Base(g, 0), first(l.halves, 0))
		want(t, fmt.Sprintf("End(%+v, 0)", g), geo.End(g, 0), first(l.halves, 1))
		want(t, fmt.Sprintf("Base(%+v, 1)", g), geo.Base(g, 1), first(l.halves, 1))
		want(t, fmt.Sprintf("End(%+v, 1)", g), geo.End(g, 1), len(l.halves))
	}
}

func TestP801NoSuchHalf(t *testing.T) {
	for _, g := range edges() {
		for _, space := range append(rest(), 2, 3, 15, 16, 24) {
			want(t, fmt.Sprintf("Base(%+v, %d)", g, space), geo.Base(g, space), 0)
			want(t, fmt.Sprintf("End(%+v, %d)", g, space), geo.End(g, space), 0)
			for _, cell := range append(rest(), 0, 1, 15, 16, 17, 16+g.Half, 15+2*g.Half, 16+2*g.Half) {
				want(t, fmt.Sprintf("In(%+v, %d, %d)", g, space, cell), geo.In(g, space, cell), false)
			}
		}
	}
}

func TestP801InOfEveryCell(t *testing.T) {
	for _, g := range edges() {
		l := lay(g)
		for cell := -40; cell < len(l.halves)+40; cell++ {
			half := -1
			if cell >= 0 && cell < len(l.halves) {
				half = l.halves[cell]
			}
			for space := range 2 {
				want(t, fmt.Sprintf("In(%+v, %d, %d)", g, space, cell), geo.In(g, space, cell), half == space)
			}
		}
		for _, cell := range rest() {
			for space := range 2 {
				want(t, fmt.Sprintf("In(%+v, %d, %d)", g, space, cell), geo.In(g, space, cell), false)
			}
		}
	}
}

func TestP802WhereEachSectorLies(t *testing.T) {
	for half := 8; half <= 400; half++ {
		for _, log := range []int{4, 5, 299, 300} {
			g := api.Geo{Half: half, Log: log}
			l := lay(g)
			want(t, fmt.Sprintf("LogAt(%+v)", g), geo.LogAt(g), first(l.sectors, "log 0"))
			want(t, fmt.Sprintf("Sectors(%+v)", g), geo.Sectors(g), len(l.sectors))
		}
	}
	for _, g := range edges() {
		l := lay(g)
		for no := range l.pages {
			for slot := range 2 {
				what := fmt.Sprint("page ", no, " slot ", slot, " 0")
				want(t, fmt.Sprintf("PageAt(%+v, %d, %d)", g, no, slot), geo.PageAt(g, no, slot), first(l.sectors, what))
			}
		}
	}
}

func TestP802EveryLog(t *testing.T) {
	for log := 4; log <= 300; log++ {
		g := api.Geo{Half: 8, Log: log}
		want(t, fmt.Sprintf("LogAt(%+v)", g), geo.LogAt(g), 14)
		want(t, fmt.Sprintf("Sectors(%+v)", g), geo.Sectors(g), 14+log)
		want(t, fmt.Sprintf("PageAt(%+v, 1, 1)", g), geo.PageAt(g, 1, 1), 11)
	}
}

func TestP802Examples(t *testing.T) {
	g := api.Geo{Half: 8, Log: 4}
	want(t, "the first page", geo.PageAt(g, 0, 0), 2)
	want(t, "its other slot", geo.PageAt(g, 0, 1), 5)
	want(t, "the second page", geo.PageAt(g, 1, 0), 8)
	want(t, "its other slot", geo.PageAt(g, 1, 1), 11)
	want(t, "the log", geo.LogAt(g), 14)
	want(t, "the greatest one's last page", geo.PageAt(api.Geo{Half: 400, Log: 300}, 50, 1), 305)
}

func TestP802NoSuchPage(t *testing.T) {
	for _, g := range edges() {
		n := geo.Pages(g)
		for _, no := range append(rest(), n, n+1, 2*n, 1000) {
			for _, slot := range []int{-1, 0, 1, 2} {
				want(t, fmt.Sprintf("PageAt(%+v, %d, %d)", g, no, slot), geo.PageAt(g, no, slot), 0)
			}
		}
		for _, slot := range append(rest(), 2, 3, 6) {
			for _, no := range []int{-1, 0, 1, n - 1, n} {
				want(t, fmt.Sprintf("PageAt(%+v, %d, %d)", g, no, slot), geo.PageAt(g, no, slot), 0)
			}
		}
	}
}

func TestP802WrongGeometries(t *testing.T) {
	for _, g := range wrongs() {
		want(t, fmt.Sprintf("LogAt(%+v)", g), geo.LogAt(g), 0)
		want(t, fmt.Sprintf("Sectors(%+v)", g), geo.Sectors(g), 0)
		for _, no := range append(rest(), 0, 1, 2, 50, 51) {
			for slot := -1; slot < 3; slot++ {
				want(t, fmt.Sprintf("PageAt(%+v, %d, %d)", g, no, slot), geo.PageAt(g, no, slot), 0)
			}
		}
	}
}
