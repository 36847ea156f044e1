package page_test

import (
	"encoding/binary"
	"fmt"
	"math"
	"slices"
	"strings"
	"testing"

	"flitting/api"
	"flitting/page"
	"flitting/seal"
)

func want[T comparable](t *testing.T, what string, got, wanted T) {
	t.Helper()
	if got != wanted {
		t.Errorf("%s: %#v, not %#v", what, got, wanted)
	}
}

// filled are as many cells as a page has: these, and zeros behind them.
func filled(v ...int) []int { return append(v, make([]int, api.PerPage-len(v))...) }

// made is a page that Put must make.
func made(t *testing.T, no, version int, cells []int) []string {
	t.Helper()
	l, is := page.Put(no, version, cells)
	if !is || len(l) != page.Sectors {
		t.Fatalf("Put(%d, %d, %v): %q %t", no, version, cells, l, is)
	}
	return l
}

// sealed are bytes of a page by the document's words alone, whatever the numbers are: each in four bytes, some bytes behind them, and the sum.
func sealed(behind string, numbers ...int) string {
	var b []byte
	for _, v := range numbers {
		b = binary.LittleEndian.AppendUint32(b, uint32(v))
	}
	return seal.Seal(string(b)+behind, 96)
}

// cut is bytes in pieces of a sector.
func cut(b string) []string {
	var l []string
	for ; len(b) > 32; b = b[32:] {
		l = append(l, b[:32])
	}
	return append(l, b)
}

// putTold, getTold and atTold are what the calls tell, as texts; what stands beside a false must be zero.
func putTold(no, version int, cells []int) string {
	l, is := page.Put(no, version, cells)
	return fmt.Sprintf("%q %t", l, is)
}

func getTold(l []string) string {
	no, version, cells, is := page.Get(l)
	return fmt.Sprint(no, version, cells, is)
}

func atTold(no, version int, l []string) string {
	cells, is := page.At(no, version, l)
	return fmt.Sprint(cells, is)
}

const (
	notPut = "[] false"
	notGot = "0 0 [] false"
	notAt  = "[] false"
)

// outs are numbers that none may be.
func outs() []int {
	return []int{-1, -2, -1000, -api.Wrap, math.MinInt, api.Wrap, api.Wrap + 1, api.Wrap + 5, 1 << 40, math.MaxInt}
}

// pages are the numbers of pages of many kinds: no, version, cells.
func pages() [][]int {
	var rising, highest []int
	for k := range api.PerPage {
		rising = append(rising, 0x01020304*(k+1))
		highest = append(highest, api.Wrap-1)
	}
	l := [][]int{}
	for _, no := range []int{0, 1, 3, 255, 256, 999, 1000} {
		for _, version := range []int{0, 1, 4, 256, 1 << 31, api.Wrap - 1} {
			for _, cells := range [][]int{filled(), filled(7, 0, api.Wrap-1, 258), rising, highest} {
				l = append(l, append([]int{no, version}, cells...))
			}
		}
	}
	for k := range api.PerPage {
		cells := filled()
		cells[k] = 1 << k
		l = append(l, append([]int{k, 17 * k}, cells...))
	}
	return l
}

func TestP401Sectors(t *testing.T) {
	want(t, "Sectors", page.Sectors, 3)
}

func TestP401Put(t *testing.T) {
	l := made(t, 3, 4, filled(7, 0, api.Wrap-1, 258))
	want(t, "what is ahead", l[0][:24], "\x03\x00\x00\x00\x04\x00\x00\x00\x07\x00\x00\x00\x00\x00\x00\x00\xff\xff\xff\xff\x02\x01\x00\x00")
	for _, p := range pages() {
		l := made(t, p[0], p[1], p[2:])
		if wanted := cut(sealed("", p...)); !slices.Equal(l, wanted) {
			t.Errorf("Put of %v: %q, not %q", p, l, wanted)
		}
		for k, b := range l {
			want(t, fmt.Sprintf("bytes of sector %d of %v", k, p), len(b), api.Sector)
		}
		body, is := seal.Open(strings.Join(l, ""))
		want(t, fmt.Sprintf("opened %v", p), is, true)
		want(t, fmt.Sprintf("behind the cells of %v", p), body[72:], strings.Repeat("\x00", 20))
	}
}

func TestP401PutRefuses(t *testing.T) {
	for _, no := range append(outs(), 1001, 1002, 2000, api.Wrap-1) {
		want(t, fmt.Sprint("no ", no), putTold(no, 0, filled()), notPut)
	}
	for _, v := range outs() {
		want(t, fmt.Sprint("version ", v), putTold(0, v, filled()), notPut)
		for k := range api.PerPage {
			cells := filled()
			cells[k] = v
			want(t, fmt.Sprintf("cell %d %d", k, v), putTold(0, 0, cells), notPut)
		}
	}
	for n := range 100 {
		if n != api.PerPage {
			want(t, fmt.Sprint("cells: ", n), putTold(0, 0, make([]int, n)), notPut)
		}
	}
	want(t, "nil cells", putTold(0, 0, nil), notPut)
	want(t, "all at once", putTold(-1, -1, []int{-1}), notPut)
}

func TestP401Get(t *testing.T) {
	for _, p := range pages() {
		wanted := fmt.Sprint(p[0], p[1], p[2:], true)
		want(t, fmt.Sprintf("Get of Put of %v", p), getTold(made(t, p[0], p[1], p[2:])), wanted)
		want(t, fmt.Sprintf("Get of %v", p), getTold(cut(sealed("", p...))), wanted)
	}
}

func TestP401GetOfOtherLists(t *testing.T) {
	a := made(t, 3, 4, filled(7, 0, api.Wrap-1, 258))
	all := strings.Join(a, "")
	for n := range a {
		want(t, fmt.Sprintf("the first %d", n), getTold(a[:n]), notGot)
		want(t, fmt.Sprintf("all behind the first %d", n+1), getTold(a[n+1:]), notGot)
	}
	for _, l := range [][]string{
		nil, {}, {""}, {"", "", ""}, {all}, {all, "", ""}, {"", all, ""}, {"", "", all}, {all[:64], all[64:]},
		{all[:31], all[31:64], all[64:]}, {all[:33], all[33:64], all[64:]}, {all[:32], all[32:63], all[63:]}, {all[:48], all[48:64], all[64:]},
		append(slices.Clone(a), ""), append([]string{""}, a...), append(slices.Clone(a), a...), append(slices.Clone(a), a[2]),
		{a[0][:31], a[1], a[2]}, {a[0], a[1][:31], a[2]}, {a[0], a[1], a[2][:31]}, {a[0], a[1], ""},
		{a[0] + "\x00", a[1], a[2]}, {a[0], a[1] + "\x00", a[2]}, {a[0], a[1], a[2] + "\x00"}, {a[0], a[1], a[2] + a[2]},
		{a[0], a[2], a[1]}, {a[1], a[0], a[2]}, {a[1], a[2], a[0]}, {a[2], a[0], a[1]}, {a[0], a[0], a[2]},
	} {
		want(t, fmt.Sprintf("Get(%q)", l), getTold(l), notGot)
	}
	for _, b := range []string{"\x00", "\xff", "a"} {
		whole := strings.Repeat(b, 32)
		want(t, fmt.Sprintf("all %q", b), getTold([]string{whole, whole, whole}), notGot)
	}
}

// TestP401GetOfWhatIsSealed asks for what has a right sum, but is not what Put makes.
func TestP401GetOfWhatIsSealed(t *testing.T) {
	numbers := func(no int) []int { return append([]int{no, 4}, filled(7)...) }
	want(t, "the last page", getTold(cut(sealed("", numbers(1000)...))), fmt.Sprint(1000, 4, filled(7), true))
	for _, no := range []int{1001, 1002, 1024, 1 << 31, api.Wrap - 1} {
		want(t, fmt.Sprint("no ", no), getTold(cut(sealed("", numbers(no)...))), notGot)
	}
	for k := range 20 {
		for _, b := range []string{"\x01", "\x80", "\xff"} {
			behind := strings.Repeat("\x00", k) + b
			want(t, fmt.Sprintf("behind the cells %q", behind), getTold(cut(sealed(behind, numbers(3)...))), notGot)
		}
	}
	// A whole one of another length, moved to the place of 96 bytes.
	short := seal.Seal(sealed("", numbers(3)...)[:72], 92)
	want(t, "sealed to 92 bytes", getTold(cut(short+"\x00\x00\x00\x00")), notGot)
}

func TestP401GetOfOneByteTurned(t *testing.T) {
	for _, p := range [][]int{pages()[0], append([]int{3, 4}, filled(7, 0, api.Wrap-1, 258)...)} {
		whole := strings.Join(made(t, p[0], p[1], p[2:]), "")
		for k := range whole {
			turned := []byte(whole)
			for by := 1; by < 256; by++ {
				turned[k] = whole[k] ^ byte(by)
				if got := getTold(cut(string(turned))); got != notGot {
					t.Fatalf("%v, byte %d turned by %d: %s", p, k, by, got)
				}
			}
		}
	}
}

// TestP401GetOfTorn mixes the sectors of two pages: a mix is a page only if it is one of the two.
func TestP401GetOfTorn(t *testing.T) {
	a := made(t, 3, 4, filled(7, 8, 9, 10, 11, 12, 13))
	for _, b := range [][]string{
		made(t, 3, 5, filled(7, 8, 9, 10, 11, 12, 13)),
		made(t, 2, 4, filled(7, 8, 9, 10, 11, 12, 13)),
		made(t, 3, 4, filled(7, 8, 9, 10, 11, 12, 14)),
		made(t, 3, 5, filled(0, 8, 9, 10, 11, 12, 14)),
	} {
		for mix := range 1 << len(a) {
			l := slices.Clone(a)
			for k := range l {
				if mix>>k&1 == 1 {
					l[k] = b[k]
				}
			}
			_, _, cells, is := page.Get(l)
			whole := slices.Equal(l, a) || slices.Equal(l, b)
			if is != whole || is != (len(cells) == api.PerPage) {
				t.Errorf("mix %d of %q and %q: %v %t", mix, a, b, cells, is)
			}
		}
	}
}

func TestP401KeepsToItsOwn(t *testing.T) {
	cells := filled(7, 0, api.Wrap-1, 258)
	l := made(t, 3, 4, cells)
	want(t, "what was put", fmt.Sprint(cells), fmt.Sprint(filled(7, 0, api.Wrap-1, 258)))
	ahead := slices.Clone(l)
	cells[0] = 99
	want(t, "Put, and the cells turned", slices.Equal(l, ahead), true)
	_, _, got, _ := page.Get(l)
	again, _ := page.At(3, 4, l)
	got[0], again[1] = 98, 97
	want(t, "Get and At, and what they told turned", getTold(l), fmt.Sprint(3, 4, filled(7, 0, api.Wrap-1, 258), true))
	want(t, "what was handed in", slices.Equal(l, ahead), true)
	made(t, 3, 4, filled(7, 0, api.Wrap-1, 258))[0] = ""
	want(t, "Put again", slices.Equal(made(t, 3, 4, filled(7, 0, api.Wrap-1, 258)), ahead), true)
}

func TestP402At(t *testing.T) {
	for _, p := range pages() {
		l := made(t, p[0], p[1], p[2:])
		want(t, fmt.Sprintf("At of %v", p), atTold(p[0], p[1], l), fmt.Sprint(p[2:], true))
		for _, by := range []int{1, -1, 256, 1 << 31, api.Wrap, -api.Wrap} {
			want(t, fmt.Sprintf("no other by %d of %v", by, p), atTold(p[0]+by, p[1], l), notAt)
			want(t, fmt.Sprintf("version other by %d of %v", by, p), atTold(p[0], p[1]+by, l), notAt)
			want(t, fmt.Sprintf("both other by %d of %v", by, p), atTold(p[0]+by, p[1]+by, l), notAt)
		}
	}
	a := made(t, 3, 4, filled(7))
	want(t, "the example", atTold(3, 5, a), notAt)
	want(t, "no and version the other way round", atTold(4, 3, a), notAt)
}

func TestP402AtOfNoPage(t *testing.T) {
	a := made(t, 3, 4, filled(7, 0, 0, 0, 0, 0, 0, 8))
	zeros := strings.Repeat("\x00", 32)
	for _, l := range [][]string{nil, {}, a[:1], a[:2], a[1:], append(slices.Clone(a), ""), {strings.Join(a, ""), "", ""}, {a[0], a[1], zeros}, {a[0], zeros, a[2]}, {zeros, a[1], a[2]}} {
		want(t, fmt.Sprintf("At of %q", l), atTold(3, 4, l), notAt)
	}
	// What beside a false is zero must not be taken for a page 0 of version 0.
	for _, l := range [][]string{nil, {"", "", ""}, {zeros, zeros, zeros}} {
		want(t, fmt.Sprintf("At(0, 0) of %q", l), atTold(0, 0, l), notAt)
	}
	many := append([]int{1001, 4}, filled(7)...)
	want(t, "sealed, but no page", atTold(1001, 4, cut(sealed("", many...))), notAt)
}
