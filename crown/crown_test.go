package crown_test

import (
	"encoding/binary"
	"fmt"
	"hash/fnv"
	"math"
	"slices"
	"strings"
	"testing"

	"flitting/api"
	"flitting/crown"
)

func want[T comparable](t *testing.T, what string, got, wanted T) {
	t.Helper()
	if got != wanted {
		t.Errorf("%s: %#v, not %#v", what, got, wanted)
	}
}

// plain is a super that may be, with another value in each place.
func plain() api.Super { return api.Super{Seq: 4, Head: 258, Epoch: 3, Half: 8, Log: 300} }

// made is a crown that Put must make.
func made(t *testing.T, s api.Super) string {
	t.Helper()
	b, is := crown.Put(s)
	if !is || len(b) != api.Sector {
		t.Fatalf("Put(%+v): %q %t", s, b, is)
	}
	return b
}

// seq is a crown of that Seq.
func seq(t *testing.T, n int) string {
	t.Helper()
	s := plain()
	s.Seq = n
	return made(t, s)
}

// sealed are 32 bytes by the document's words alone: these, zeros, and the sum.
func sealed(b string) string {
	all := append([]byte(b), make([]byte, 28-len(b))...)
	h := fnv.New32a()
	h.Write(all)
	return string(binary.LittleEndian.AppendUint32(all, h.Sum32()))
}

// worded is a crown by the document's words, of numbers that fit in their bytes, whether they may be or not, with bytes behind them.
func worded(s api.Super, behind string) string {
	b := []byte("FLIT")
	for _, v := range []int{s.Seq, s.Head, s.Epoch} {
		b = binary.LittleEndian.AppendUint32(b, uint32(v))
	}
	for _, v := range []int{s.Half, s.Log} {
		b = binary.LittleEndian.AppendUint16(b, uint16(v))
	}
	return sealed(string(b) + behind)
}

// putTold, getTold and newerTold are what the calls tell, as texts; what stands beside a false must be zero.
func putTold(s api.Super) string {
	b, is := crown.Put(s)
	return fmt.Sprintf("%q %t", b, is)
}

func getTold(b string) string {
	s, is := crown.Get(b)
	return fmt.Sprint(s, is)
}

func newerTold(a, b string) string {
	s, at, is := crown.Newer(a, b)
	return fmt.Sprint(s, at, is)
}

const (
	notPut   = `"" false`
	notGot   = "{0 0 0 0 0} false"
	notNewer = "{0 0 0 0 0} 0 false"
)

// part is a number of a super, and what it may be.
type part struct {
	name        string
	least, most int
	of          func(s *api.Super) *int
}

func parts() []part {
	return []part{
		{"Seq", 0, 900_000_000, func(s *api.Super) *int { return &s.Seq }},
		{"Head", 0, 900_000_000, func(s *api.Super) *int { return &s.Head }},
		{"Epoch", 0, 900_000_000, func(s *api.Super) *int { return &s.Epoch }},
		{"Half", 8, 400, func(s *api.Super) *int { return &s.Half }},
		{"Log", 4, 300, func(s *api.Super) *int { return &s.Log }},
	}
}

// with is a plain super whose part is that.
func with(p part, v int) api.Super {
	s := plain()
	*p.of(&s) = v
	return s
}

// ins are numbers that a part may be, outs ones that it may not.
func ins(p part) []int {
	l := []int{p.least, p.least + 1, p.most - 1, p.most}
	for _, v := range []int{9, 10, 100, 127, 128, 255, 256, 257, 299, 65_535, 65_536, 1 << 24, 305_419_896} {
		if v >= p.least && v <= p.most {
			l = append(l, v)
		}
	}
	return l
}

func outs(p part) []int {
	l := []int{p.least - 1, p.most + 1, -1, -2, -256, -p.most, p.most + 2, 1 << 31, api.Wrap - 1, math.MinInt, math.MaxInt}
	// Cut to the bytes that a crown has for it these would be ones that may be.
	return append(l, p.least+api.Wrap, p.most+api.Wrap, p.least-api.Wrap, p.least+2*api.Wrap, math.MinInt+p.most)
}

// rights are supers that may be: each edge by itself, and all of them at once.
func rights() []api.Super {
	l := []api.Super{plain(), {Half: 8, Log: 4}, {Seq: 900_000_000, Head: 900_000_000, Epoch: 900_000_000, Half: 400, Log: 300}}
	for _, p := range parts() {
		for _, v := range ins(p) {
			l = append(l, with(p, v))
		}
	}
	return l
}

func TestP501Right(t *testing.T) {
	for _, s := range rights() {
		want(t, fmt.Sprintf("Right(%+v)", s), crown.Right(s), true)
	}
	for _, p := range parts() {
		for _, v := range outs(p) {
			want(t, fmt.Sprintf("Right of %s %d", p.name, v), crown.Right(with(p, v)), false)
		}
	}
	want(t, "Right of zeros", crown.Right(api.Super{}), false)
}

func TestP501RightOfEveryHalfAndLog(t *testing.T) {
	for v := -10; v < 70_000; v++ {
		want(t, fmt.Sprint("Half ", v), crown.Right(api.Super{Half: v, Log: 4}), v >= 8 && v <= 400)
		want(t, fmt.Sprint("Log ", v), crown.Right(api.Super{Half: 8, Log: v}), v >= 4 && v <= 300)
	}
}

func TestP501Put(t *testing.T) {
	want(t, "what is ahead", made(t, plain())[:20], "FLIT\x04\x00\x00\x00\x02\x01\x00\x00\x03\x00\x00\x00\x08\x00\x2c\x01")
	for _, s := range rights() {
		b := made(t, s)
		want(t, fmt.Sprintf("Put(%+v)", s), b, worded(s, ""))
		want(t, fmt.Sprintf("behind the numbers of %+v", s), b[20:28], strings.Repeat("\x00", 8))
	}
}

func TestP501PutRefuses(t *testing.T) {
	for _, p := range parts() {
		for _, v := range outs(p) {
			want(t, fmt.Sprintf("Put of %s %d", p.name, v), putTold(with(p, v)), notPut)
		}
	}
	want(t, "Put of zeros", putTold(api.Super{}), notPut)
	want(t, "all at once", putTold(api.Super{Seq: -1, Head: -1, Epoch: -1, Half: -1, Log: -1}), notPut)
}

func TestP501Get(t *testing.T) {
	for _, s := range rights() {
		want(t, fmt.Sprintf("Get of Put(%+v)", s), getTold(made(t, s)), fmt.Sprint(s, true))
		want(t, fmt.Sprintf("Get of %+v", s), getTold(worded(s, "")), fmt.Sprint(s, true))
	}
}

func TestP501GetOfOtherLengths(t *testing.T) {
	b := made(t, plain())
	for n := range b {
		want(t, fmt.Sprintf("the first %d bytes", n), getTold(b[:n]), notGot)
		want(t, fmt.Sprintf("all behind the first %d", n+1), getTold(b[n+1:]), notGot)
	}
	for _, x := range []string{b + "\x00", "\x00" + b, b + b, b[:28] + "\x00" + b[28:], strings.Repeat(b, 100)} {
		want(t, fmt.Sprintf("Get(%q)", x), getTold(x), notGot)
	}
	for _, x := range []string{"\x00", "\xff", "F", "FLIT"} {
		want(t, fmt.Sprintf("only %q", x), getTold(strings.Repeat(x, 32/len(x))), notGot)
	}
}

// TestP501GetOfWhatIsSealed asks for what has a right sum, but is not what Put makes.
func TestP501GetOfWhatIsSealed(t *testing.T) {
	for _, p := range parts() {
		l := []int{p.least - 1, p.most + 1, p.most + 256, 65_535}
		if p.most > 65_535 {
			l = []int{p.most + 1, p.most + 256, 1 << 30, 1 << 31, api.Wrap - 1}
		}
		for _, v := range l {
			want(t, fmt.Sprintf("sealed %s %d", p.name, v), getTold(worded(with(p, v), "")), notGot)
		}
	}
	for k := range 8 {
		for _, b := range []string{"\x01", "\x80", "\xff"} {
			behind := strings.Repeat("\x00", k) + b
			want(t, fmt.Sprintf("behind the numbers %q", behind), getTold(worded(plain(), behind)), notGot)
		}
	}
	numbers := made(t, plain())[4:28]
	for _, sign := range []string{"FLIS", "flit", "TILF", "\x00\x00\x00\x00", "FLI\x00", "GLIT", "FMIT", "FLJT"} {
		want(t, fmt.Sprintf("sealed behind %q", sign), getTold(sealed(sign+numbers)), notGot)
	}
	want(t, "sealed without a sign", getTold(sealed(numbers)), notGot)
	want(t, "sealed nothing", getTold(sealed("")), notGot)
	want(t, "sealed a sign alone", getTold(sealed("FLIT")), notGot)
}

func TestP501GetOfOneByteTurned(t *testing.T) {
	for _, s := range []api.Super{plain(), {Half: 8, Log: 4}, {Seq: 900_000_000, Head: 1, Epoch: 2, Half: 400, Log: 300}} {
		whole := made(t, s)
		for k := range len(whole) {
			turned := []byte(whole)
			for by := 1; by < 256; by++ {
				turned[k] = whole[k] ^ byte(by)
				if got := getTold(string(turned)); got != notGot {
					t.Fatalf("%+v, byte %d turned by %d: %s", s, k, by, got)
				}
			}
		}
	}
}

func TestP501Place(t *testing.T) {
	for n := range 100 {
		want(t, fmt.Sprint("Place of Seq ", n), crown.Place(with(parts()[0], n)), n%2)
	}
	want(t, "Place of the last Seq", crown.Place(api.Super{Seq: 900_000_000}), 0)
	want(t, "Place of the one ahead of it", crown.Place(api.Super{Seq: 899_999_999}), 1)
	// Seq alone says it, also where the super may not be.
	want(t, "Place of odd others", crown.Place(api.Super{Seq: 4, Head: 1, Epoch: 1, Half: 9, Log: 5}), 0)
	want(t, "Place of even others", crown.Place(api.Super{Seq: 5, Head: 2, Epoch: 2, Half: 8, Log: 4}), 1)
	want(t, "Place of zeros", crown.Place(api.Super{}), 0)
	for n, place := range map[int]int{-1: 1, -2: 0, -3: 1, math.MaxInt: 1, math.MinInt: 0, math.MinInt + 1: 1, api.Wrap: 0, api.Wrap + 1: 1} {
		want(t, fmt.Sprint("Place of Seq ", n), crown.Place(api.Super{Seq: n}), place)
	}
}

func TestP502Newer(t *testing.T) {
	seqs := []int{0, 1, 2, 3, 4, 5, 255, 256, 257, 65_535, 65_536, 1 << 24, 899_999_999, 900_000_000}
	for _, x := range seqs {
		for _, y := range seqs {
			s, at := with(parts()[0], x), 0
			if y > x {
				s, at = with(parts()[0], y), 1
			}
			want(t, fmt.Sprintf("Newer of %d and %d", x, y), newerTold(seq(t, x), seq(t, y)), fmt.Sprint(s, at, true))
		}
	}
}

func TestP502NewerOfTheSame(t *testing.T) {
	for _, p := range parts()[1:] {
		a, b := with(p, p.least), with(p, p.most)
		want(t, "the same Seq, other "+p.name, newerTold(made(t, a), made(t, b)), fmt.Sprint(a, 0, true))
		want(t, "the same Seq, other "+p.name+", turned", newerTold(made(t, b), made(t, a)), fmt.Sprint(b, 0, true))
	}
	// Seq alone says which one counts, however great the others are.
	low := api.Super{Seq: 6, Head: 900_000_000, Epoch: 900_000_000, Half: 400, Log: 300}
	high := api.Super{Seq: 7, Half: 8, Log: 4}
	want(t, "greater others ahead", newerTold(made(t, low), made(t, high)), fmt.Sprint(high, 1, true))
	want(t, "greater others behind", newerTold(made(t, high), made(t, low)), fmt.Sprint(high, 0, true))
}

// none are bytes that are no crown.
func none(t *testing.T) []string {
	whole := made(t, plain())
	torn := []byte(whole)
	torn[4] ^= 64
	return []string{"", "torn", strings.Repeat("\x00", 32), whole[:31], whole + "\x00", string(torn), worded(with(parts()[0], 900_000_001), ""), worded(plain(), "\x01"), sealed("FLIS" + whole[4:28])}
}

func TestP502NewerOfOne(t *testing.T) {
	for _, x := range none(t) {
		for _, n := range []int{0, 1, 4, 5, 900_000_000} {
			s := with(parts()[0], n)
			want(t, fmt.Sprintf("Newer of %d and %q", n, x), newerTold(seq(t, n), x), fmt.Sprint(s, 0, true))
			want(t, fmt.Sprintf("Newer of %q and %d", x, n), newerTold(x, seq(t, n)), fmt.Sprint(s, 1, true))
		}
		for _, y := range none(t) {
			want(t, fmt.Sprintf("Newer of %q and %q", x, y), newerTold(x, y), notNewer)
		}
	}
}

// TestP502NewerWhileOneIsWritten tears the next crown at each byte: the one that stays counts, until the other one is whole.
func TestP502NewerWhileOneIsWritten(t *testing.T) {
	both := []string{seq(t, 6), seq(t, 7)}
	for n := 8; n < 12; n++ {
		next := with(parts()[0], n)
		place := crown.Place(next)
		old, b := both[place], made(t, next)
		for k := range len(b) + 1 {
			both[place] = b[:k] + old[k:]
			s, at := with(parts()[0], n-1), 1-place
			if both[place] == b {
				s, at = next, place
			}
			want(t, fmt.Sprintf("%d bytes of %d", k, n), newerTold(both[0], both[1]), fmt.Sprint(s, at, true))
		}
	}
	if !slices.Equal(both, []string{seq(t, 10), seq(t, 11)}) {
		t.Errorf("in the end: %q", both)
	}
}
