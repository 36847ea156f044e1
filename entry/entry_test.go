package entry_test

import (
	"encoding/binary"
	"fmt"
	"hash/fnv"
	"math"
	"slices"
	"strings"
	"testing"

	"flitting/api"
	"flitting/entry"
)

func want[T comparable](t *testing.T, what string, got, wanted T) {
	t.Helper()
	if got != wanted {
		t.Errorf("%s: %#v, not %#v", what, got, wanted)
	}
}

// plain is a change that may be, with another value in each place; ended is a commit that may be.
func plain() api.Entry { return api.Entry{Kind: 1, Lsn: 258, Epoch: 3, Cell: 20, Value: 305_419_896} }

func ended() api.Entry { return api.Entry{Kind: 2, Lsn: 259, Epoch: 3, Cell: 1} }

// made is a sector that Put must make.
func made(t *testing.T, e api.Entry) string {
	t.Helper()
	b, is := entry.Put(e)
	if !is || len(b) != api.Sector {
		t.Fatalf("Put(%+v): %q %t", e, b, is)
	}
	return b
}

// sealed are 32 bytes by the document's words alone: these, zeros, and the sum.
func sealed(b string) string {
	all := append([]byte(b), make([]byte, 28-len(b))...)
	h := fnv.New32a()
	h.Write(all)
	return string(binary.LittleEndian.AppendUint32(all, h.Sum32()))
}

// worded is a sector by the document's words, of numbers that fit in their bytes, whether they may be or not, with bytes behind them.
func worded(e api.Entry, behind string) string {
	b := []byte{byte(e.Kind)}
	for _, v := range []int{e.Lsn, e.Epoch, e.Cell, e.Value} {
		b = binary.LittleEndian.AppendUint32(b, uint32(v))
	}
	return sealed(string(b) + behind)
}

// putTold, getTold, groupTold and changesTold are what the calls tell, as texts; what stands beside a false must be zero.
func putTold(e api.Entry) string {
	b, is := entry.Put(e)
	return fmt.Sprintf("%q %t", b, is)
}

func getTold(b string) string {
	e, is := entry.Get(b)
	return fmt.Sprint(e, is)
}

func groupTold(lsn, epoch int, l ...api.Change) string {
	g, is := entry.Group(lsn, epoch, l...)
	return fmt.Sprint(g, is)
}

func changesTold(l ...api.Entry) string {
	c, n := entry.Changes(l...)
	return fmt.Sprint(c, n)
}

const (
	notPut   = `"" false`
	notGot   = "{0 0 0 0 0} false"
	notGroup = "[] false"
)

// part is a number of an entry that may be 0 to Wrap less 1.
type part struct {
	name string
	of   func(e *api.Entry) *int
}

func parts() []part {
	return []part{
		{"Lsn", func(e *api.Entry) *int { return &e.Lsn }},
		{"Epoch", func(e *api.Entry) *int { return &e.Epoch }},
		{"Cell", func(e *api.Entry) *int { return &e.Cell }},
		{"Value", func(e *api.Entry) *int { return &e.Value }},
	}
}

// with is an entry whose part is that.
func with(e api.Entry, p part, v int) api.Entry {
	*p.of(&e) = v
	return e
}

// ins are numbers that a part may be, outs ones that it may not.
func ins() []int {
	return []int{0, 1, 2, 127, 128, 255, 256, 257, 65_535, 65_536, 1 << 24, 1 << 31, 305_419_896, api.Wrap - 2, api.Wrap - 1}
}

func outs() []int {
	return []int{-1, -2, -256, -api.Wrap, 1 - api.Wrap, math.MinInt, api.Wrap, api.Wrap + 1, api.Wrap + 258, 2 * api.Wrap, 1 << 40, math.MaxInt}
}

// otherKinds are kinds that there are not; some would be one if they were cut to a byte.
func otherKinds() []int {
	return []int{0, 3, 4, 5, 127, 128, 255, 256, 257, 258, 513, -1, -2, -255, -254, api.Wrap + 1, api.Wrap + 2, math.MinInt, math.MinInt + 1, math.MaxInt}
}

// rights are entries that may be, of both kinds: each edge by itself, and all of them at once.
func rights() []api.Entry {
	const last = api.Wrap - 1
	l := []api.Entry{plain(), ended(), {Kind: 1}, {Kind: 2}, {Kind: 1, Lsn: last, Epoch: last, Cell: last, Value: last}, {Kind: 2, Lsn: last, Epoch: last, Cell: last}}
	for _, p := range parts() {
		for _, v := range ins() {
			l = append(l, with(plain(), p, v))
			if p.name != "Value" {
				l = append(l, with(ended(), p, v))
			}
		}
	}
	return l
}

// wrongs are entries that may not be.
func wrongs() []api.Entry {
	l := []api.Entry{{}, {Kind: 1, Lsn: -1, Epoch: -1, Cell: -1, Value: -1}}
	for _, k := range otherKinds() {
		for _, e := range []api.Entry{plain(), ended(), {}} {
			e.Kind = k
			l = append(l, e)
		}
	}
	for _, p := range parts() {
		for _, v := range outs() {
			l = append(l, with(plain(), p, v), with(ended(), p, v))
		}
	}
	value := parts()[3]
	for _, v := range ins()[1:] {
		l = append(l, with(ended(), value, v))
	}
	return l
}

func TestP601Right(t *testing.T) {
	for _, e := range rights() {
		want(t, fmt.Sprintf("Right(%+v)", e), entry.Right(e), true)
	}
	for _, e := range wrongs() {
		want(t, fmt.Sprintf("Right(%+v)", e), entry.Right(e), false)
	}
}

func TestP601Put(t *testing.T) {
	want(t, "a change", made(t, plain())[:17], "\x01\x02\x01\x00\x00\x03\x00\x00\x00\x14\x00\x00\x00\x78\x56\x34\x12")
	want(t, "a commit", made(t, ended())[:17], "\x02\x03\x01\x00\x00\x03\x00\x00\x00\x01\x00\x00\x00\x00\x00\x00\x00")
	for _, e := range rights() {
		b := made(t, e)
		want(t, fmt.Sprintf("Put(%+v)", e), b, worded(e, ""))
		want(t, fmt.Sprintf("behind the numbers of %+v", e), b[17:28], strings.Repeat("\x00", 11))
	}
}

func TestP601PutRefuses(t *testing.T) {
	for _, e := range wrongs() {
		want(t, fmt.Sprintf("Put(%+v)", e), putTold(e), notPut)
	}
}

func TestP601Get(t *testing.T) {
	for _, e := range rights() {
		want(t, fmt.Sprintf("Get of Put(%+v)", e), getTold(made(t, e)), fmt.Sprint(e, true))
		want(t, fmt.Sprintf("Get of %+v", e), getTold(worded(e, "")), fmt.Sprint(e, true))
	}
}

func TestP601GetOfOtherLengths(t *testing.T) {
	for _, e := range []api.Entry{plain(), ended()} {
		b := made(t, e)
		for n := range b {
			want(t, fmt.Sprintf("the first %d bytes", n), getTold(b[:n]), notGot)
			want(t, fmt.Sprintf("all behind the first %d", n+1), getTold(b[n+1:]), notGot)
		}
		for _, x := range []string{b + "\x00", "\x00" + b, b + b, b[:28] + "\x00" + b[28:], strings.Repeat(b, 100)} {
			want(t, fmt.Sprintf("Get(%q)", x), getTold(x), notGot)
		}
	}
	for _, x := range []string{"\x00", "\x01", "\x02", "\xff"} {
		want(t, fmt.Sprintf("only %q", x), getTold(strings.Repeat(x, 32)), notGot)
	}
}

// TestP601GetOfWhatIsSealed asks for what has a right sum, but is not what Put makes.
func TestP601GetOfWhatIsSealed(t *testing.T) {
	for k := range 256 {
		for _, e := range []api.Entry{plain(), ended(), {}} {
			e.Kind = k
			wanted := notGot
			if k == 1 || k == 2 && e.Value == 0 {
				wanted = fmt.Sprint(e, true)
			}
			want(t, fmt.Sprintf("sealed %+v", e), getTold(worded(e, "")), wanted)
		}
	}
	for _, v := range ins()[1:] {
		want(t, fmt.Sprint("a commit of Value ", v), getTold(worded(with(ended(), parts()[3], v), "")), notGot)
	}
	for k := range 11 {
		for _, b := range []string{"\x01", "\x80", "\xff"} {
			behind := strings.Repeat("\x00", k) + b
			want(t, fmt.Sprintf("behind a change %q", behind), getTold(worded(plain(), behind)), notGot)
			want(t, fmt.Sprintf("behind a commit %q", behind), getTold(worded(ended(), behind)), notGot)
		}
	}
	want(t, "sealed nothing", getTold(sealed("")), notGot)
}

func TestP601GetOfOneByteTurned(t *testing.T) {
	for _, e := range []api.Entry{plain(), ended(), {Kind: 1}, {Kind: 2}, rights()[4]} {
		whole := made(t, e)
		for k := range len(whole) {
			turned := []byte(whole)
			for by := 1; by < 256; by++ {
				turned[k] = whole[k] ^ byte(by)
				if got := getTold(string(turned)); got != notGot {
					t.Fatalf("%+v, byte %d turned by %d: %s", e, k, by, got)
				}
			}
		}
	}
}

// listed are so many changes that may be, no two the same.
func listed(n int) []api.Change {
	l := make([]api.Change, n)
	for i := range l {
		l[i] = api.Change{Cell: 1000 - i, Value: api.Wrap - 1 - 7*i}
	}
	return l
}

// grouped are the entries of changes, by the document's words.
func grouped(lsn, epoch int, l []api.Change) []api.Entry {
	var g []api.Entry
	for _, c := range l {
		g = append(g, api.Entry{Kind: 1, Lsn: lsn, Epoch: epoch, Cell: c.Cell, Value: c.Value})
		lsn++
	}
	return append(g, api.Entry{Kind: 2, Lsn: lsn, Epoch: epoch, Cell: len(l)})
}

func TestP602Group(t *testing.T) {
	two := []api.Change{{Cell: 20, Value: 7}, {Cell: 2, Value: 8}}
	want(t, "two", groupTold(5, 3, two...), "[{1 5 3 20 7} {1 6 3 2 8} {2 7 3 2 0}] true")
	want(t, "none", groupTold(5, 3), "[{2 5 3 0 0}] true")
	want(t, "the same cell twice", groupTold(0, 0, api.Change{}, api.Change{}), "[{1 0 0 0 0} {1 1 0 0 0} {2 2 0 2 0}] true")
	for _, n := range []int{0, 1, 2, 3, 5, 16, 255, 256, 257, 299, 300, 329} {
		for _, lsn := range []int{0, 1, 258, 900_000_000, api.Wrap - 1 - n} {
			for _, epoch := range []int{0, 1, 900_000_000, api.Wrap - 1} {
				l := listed(n)
				want(t, fmt.Sprintf("%d changes from %d on, of %d", n, lsn, epoch), groupTold(lsn, epoch, l...), fmt.Sprint(grouped(lsn, epoch, l), true))
			}
		}
	}
	for _, v := range ins() {
		c := []api.Change{{Cell: v}, {Value: v}, {Cell: v, Value: v}}
		want(t, fmt.Sprint("changes of ", v), groupTold(9, 9, c...), fmt.Sprint(grouped(9, 9, c), true))
	}
}

func TestP602GroupRefuses(t *testing.T) {
	for _, n := range []int{0, 1, 2, 5, 40} {
		for _, v := range append(outs(), math.MaxInt-1, -n) {
			if v != 0 {
				want(t, fmt.Sprintf("%d changes from %d on", n, v), groupTold(v, 3, listed(n)...), notGroup)
				want(t, fmt.Sprintf("%d changes of epoch %d", n, v), groupTold(5, v, listed(n)...), notGroup)
			}
		}
		for over := range n {
			lsn := api.Wrap - n + over // of the last entry: Wrap and over
			want(t, fmt.Sprintf("%d changes from %d on", n, lsn), groupTold(lsn, 3, listed(n)...), notGroup)
		}
		for at := range n {
			for _, v := range outs() {
				cell, value := listed(n), listed(n)
				cell[at].Cell, value[at].Value = v, v
				want(t, fmt.Sprintf("cell %d of %d is %d", at, n, v), groupTold(5, 3, cell...), notGroup)
				want(t, fmt.Sprintf("value %d of %d is %d", at, n, v), groupTold(5, 3, value...), notGroup)
			}
		}
	}
	want(t, "all at once", groupTold(-1, -1, api.Change{Cell: -1, Value: -1}), notGroup)
}

// TestP602GroupIsPut puts what Group makes, reads it back, and asks for the changes.
func TestP602GroupIsPut(t *testing.T) {
	var all []api.Entry
	var changes []api.Change
	for n := range 30 {
		g, _ := entry.Group(len(all), 3, listed(n)...)
		for _, e := range g {
			want(t, fmt.Sprintf("%+v back", e), getTold(made(t, e)), fmt.Sprint(e, true))
		}
		all, changes = append(all, g...), append(changes, listed(n)...)
		want(t, fmt.Sprintf("Changes of %d groups", n+1), changesTold(all...), fmt.Sprint(changes, len(all)))
	}
}

func change(cell, value int) api.Entry { return api.Entry{Kind: 1, Cell: cell, Value: value} }

func commit(n int) api.Entry { return api.Entry{Kind: 2, Cell: n} }

func TestP602Changes(t *testing.T) {
	a, b, c := change(1, 5), change(2, 6), change(1, 7)
	for _, x := range []struct {
		what   string
		l      []api.Entry
		wanted string
	}{
		{"the example", []api.Entry{a, b, commit(2), c}, "[{1 5} {2 6}] 3"},
		{"nothing", nil, "[] 0"},
		{"no commit", []api.Entry{a, b}, "[] 0"},
		{"a commit of none", []api.Entry{commit(0)}, "[] 1"},
		{"commits of none", []api.Entry{commit(0), commit(0), commit(0)}, "[] 3"},
		{"two groups", []api.Entry{a, b, commit(2), c, commit(1)}, "[{1 5} {2 6} {1 7}] 5"},
		{"none between", []api.Entry{a, commit(1), commit(0), b, commit(1)}, "[{1 5} {2 6}] 5"},
		{"too many", []api.Entry{a, commit(2), b, commit(1)}, "[] 0"},
		{"too few", []api.Entry{a, b, commit(1), c, commit(1)}, "[] 0"},
		{"of all since the start", []api.Entry{a, commit(1), b, commit(2)}, "[{1 5}] 2"},
		{"of all that there are", []api.Entry{a, commit(1), b, commit(3)}, "[{1 5}] 2"},
		{"below 0", []api.Entry{a, commit(1), commit(-1)}, "[{1 5}] 2"},
		{"another kind", []api.Entry{a, commit(1), {Kind: 3}, b, commit(1)}, "[{1 5}] 2"},
		{"another kind within", []api.Entry{a, {Kind: 3, Cell: 1}, b, commit(2)}, "[] 0"},
		{"another kind counted", []api.Entry{a, {Kind: 3}, b, commit(3)}, "[] 0"},
		{"zero", []api.Entry{{}, a, commit(1)}, "[] 0"},
		{"the same twice", []api.Entry{a, a, commit(2)}, "[{1 5} {1 5}] 3"},
	} {
		want(t, x.what, changesTold(x.l...), x.wanted)
	}
	for _, k := range otherKinds() {
		want(t, fmt.Sprint("kind ", k), changesTold(a, commit(1), api.Entry{Kind: k, Cell: 0}, b, commit(1)), "[{1 5}] 2")
		want(t, fmt.Sprint("kind ", k, " as a change"), changesTold(api.Entry{Kind: k, Cell: 4, Value: 4}, commit(1)), "[] 0")
	}
}

// cutOff is what Changes must tell, said in another way: as long as a whole group is ahead it is cut off.
func cutOff(l []api.Entry) string {
	var c []api.Change
	n := 0
	for {
		k := slices.IndexFunc(l[n:], func(e api.Entry) bool { return e.Kind != 1 })
		if k < 0 || l[n+k].Kind != 2 || l[n+k].Cell != k {
			return fmt.Sprint(c, n)
		}
		for _, e := range l[n : n+k] {
			c = append(c, api.Change{Cell: e.Cell, Value: e.Value})
		}
		n += k + 1
	}
}

// TestP602ChangesOfAllLists goes over all lists of up to six entries, of these.
func TestP602ChangesOfAllLists(t *testing.T) {
	var over func(l []api.Entry)
	over = func(l []api.Entry) {
		if got, wanted := changesTold(l...), cutOff(l); got != wanted {
			t.Fatalf("Changes(%+v): %s, not %s", l, got, wanted)
		}
		if len(l) == 6 {
			return
		}
		for _, e := range []api.Entry{change(len(l), 10+len(l)), commit(0), commit(1), commit(2), commit(3), {Kind: 3, Cell: 1}} {
			over(append(slices.Clone(l), e))
		}
	}
	over(nil)
}

// TestP602ChangesOfTorn loses each one, and all behind it: what is whole ahead of it stays.
func TestP602ChangesOfTorn(t *testing.T) {
	var all []api.Entry
	wholes := []string{"[] 0"} // what is told of so many entries ahead
	var c []api.Change
	for n := range 12 {
		g := grouped(len(all), 1, listed(n))
		for range len(g) - 1 {
			wholes = append(wholes, wholes[len(wholes)-1])
		}
		all, c = append(all, g...), append(c, listed(n)...)
		wholes = append(wholes, fmt.Sprint(c, len(all)))
	}
	for k, wanted := range wholes {
		want(t, fmt.Sprintf("the first %d", k), changesTold(all[:k]...), wanted)
		want(t, fmt.Sprintf("the first %d, and what is none", k), changesTold(append(slices.Clone(all[:k]), api.Entry{})...), wanted)
	}
}

// TestP602ChangesByKindAlone: what a group is hangs on kinds, and on the commit's Cell, alone.
func TestP602ChangesByKindAlone(t *testing.T) {
	l := []api.Entry{{Kind: 1, Lsn: 9, Epoch: 4, Cell: 1, Value: 5}, {Kind: 1, Lsn: 3, Cell: 2, Value: 6}, {Kind: 2, Lsn: 9, Epoch: 7, Cell: 2}}
	want(t, "Lsns and Epochs of all kinds", changesTold(l...), "[{1 5} {2 6}] 3")
	want(t, "numbers that may not be", changesTold(api.Entry{Kind: 1, Lsn: -1, Cell: -2, Value: api.Wrap}, api.Entry{Kind: 2, Cell: 1, Value: 8}), fmt.Sprint([]api.Change{{Cell: -2, Value: api.Wrap}}, 2))
}

func TestP602KeepsToItsOwn(t *testing.T) {
	c := listed(3)
	g, _ := entry.Group(5, 3, c...)
	want(t, "what was grouped", fmt.Sprint(c), fmt.Sprint(listed(3)))
	c[0] = api.Change{}
	want(t, "Group, and the changes turned", fmt.Sprint(g), fmt.Sprint(grouped(5, 3, listed(3))))
	again, _ := entry.Group(5, 3, listed(3)...)
	again[0] = api.Entry{}
	told, _ := entry.Changes(g...)
	want(t, "what was asked of", fmt.Sprint(g), fmt.Sprint(grouped(5, 3, listed(3))))
	g[1] = api.Entry{}
	want(t, "Changes, and the entries turned", fmt.Sprint(told), fmt.Sprint(listed(3)))
	l := grouped(5, 3, listed(3))
	first, _ := entry.Changes(l...)
	first[2] = api.Change{}
	want(t, "Changes, and what it told turned", changesTold(l...), fmt.Sprint(listed(3), 4))
}
