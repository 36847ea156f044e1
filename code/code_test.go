package code_test

import (
	"fmt"
	"math"
	"slices"
	"strings"
	"testing"

	"flitting/api"
	"flitting/code"
)

func want[T comparable](t *testing.T, what string, got, wanted T) {
	t.Helper()
	if got != wanted {
		t.Errorf("%s: %#v, not %#v", what, got, wanted)
	}
}

// putTold, getTold and targetTold are what the calls tell, as texts; what stands beside a false must be zero.
func putTold(l ...api.Ins) string {
	b, is := code.Put(l...)
	return fmt.Sprintf("%q %t", b, is)
}

func getTold(b string) string {
	l, is := code.Get(b)
	return fmt.Sprint(l, is)
}

func targetTold(i api.Ins) string {
	at, is := code.Target(i)
	return fmt.Sprint(at, is)
}

const (
	notPut    = `"" false`
	notGot    = "[] false"
	notTarget = "0 false"
)

// putAsked is what the document asks of instructions whose numbers are bytes, getAsked of whole ones that are not too many.
func putAsked(l ...api.Ins) string {
	if len(l) > 200 {
		return notPut
	}
	b := []byte{}
	for _, i := range l {
		for _, v := range []int{i.Op, i.A, i.B, i.C} {
			b = append(b, byte(v))
		}
	}
	return fmt.Sprintf("%q true", b)
}

func getAsked(b string) string {
	var l []api.Ins
	for ; b != ""; b = b[4:] {
		l = append(l, api.Ins{Op: int(b[0]), A: int(b[1]), B: int(b[2]), C: int(b[3])})
	}
	return fmt.Sprint(l, true)
}

// plain is an instruction with another number in each place.
func plain() api.Ins { return api.Ins{Op: 7, A: 9, B: 2, C: 3} }

// part is a number of an instruction.
type part struct {
	name string
	of   func(i *api.Ins) *int
}

func parts() []part {
	return []part{
		{"Op", func(i *api.Ins) *int { return &i.Op }},
		{"A", func(i *api.Ins) *int { return &i.A }},
		{"B", func(i *api.Ins) *int { return &i.B }},
		{"C", func(i *api.Ins) *int { return &i.C }},
	}
}

// with is an instruction whose part is that.
func with(i api.Ins, p part, v int) api.Ins {
	*p.of(&i) = v
	return i
}

// listed are n instructions, each with other numbers than the one ahead of it.
func listed(n int) []api.Ins {
	l := make([]api.Ins, n)
	for k := range l {
		l[k] = api.Ins{Op: k % 256, A: (3*k + 1) % 256, B: 255 - k%256, C: (7 * k) % 251}
	}
	return l
}

// outs are numbers that are no bytes; many would be one if they were cut.
func outs() []int {
	l := []int{-1, -2, -127, -128, -129, -255, -256, -257, 256, 257, 263, 300, 511, 512, 1000, math.MinInt, math.MinInt + 1, math.MinInt + 7, math.MaxInt, math.MaxInt - 248}
	for k := 9; k < 63; k++ {
		for by := -1; by <= 1; by++ {
			l = append(l, 1<<k+by, -1<<k+by)
		}
	}
	return l
}

// names are the operations' names, as the document lists them.
func names() []string {
	return []string{"halt", "const", "add", "sub", "mul", "jump", "zero", "alloc", "load", "put", "word", "setword", "root", "setroot", "commit", "abort", "out", "isnil", "same", "nil", "move", "slots", "words"}
}

// nameAsked is what the document asks of Name.
func nameAsked(op int) string {
	if op >= 0 && op < len(names()) {
		return names()[op]
	}
	return ""
}

func TestP1901Examples(t *testing.T) {
	want(t, "Put", putTold(api.Ins{Op: 7, B: 2, C: 3}), `"\a\x00\x02\x03" true`)
	want(t, "Put of two", putTold(api.Ins{Op: 1, B: 5}, api.Ins{Op: 16, A: 1, B: 2, C: 255}), `"\x01\x00\x05\x00\x10\x01\x02\xff" true`)
	want(t, "Put of none", putTold(), `"" true`)
	want(t, "Get", getTold("\x07\x00\x02\x03"), "[{7 0 2 3}] true")
	want(t, "Get of two", getTold("\x01\x00\x05\x00\x10\x01\x02\xff"), "[{1 0 5 0} {16 1 2 255}] true")
	want(t, "Get of nothing", getTold(""), "[] true")
	want(t, "Name", code.Name(7), "alloc")
	want(t, "Text", code.Text(api.Ins{Op: 7, B: 2, C: 3}), "alloc 0 2 3")
	want(t, "Target of a jump", targetTold(api.Ins{Op: 5, B: 5, C: 1}), "261 true")
	want(t, "Target of a zero", targetTold(api.Ins{Op: 6, A: 3, B: 7}), "7 true")
	want(t, "Target of an alloc", targetTold(api.Ins{Op: 7, B: 2, C: 3}), notTarget)
}

// TestP1901EveryTwoNumbers has each byte in each place, with each byte in each other place: whatever they are, they are put and got back, also where no operation is of that number.
func TestP1901EveryTwoNumbers(t *testing.T) {
	for at, p := range parts() {
		for _, q := range parts()[at+1:] {
			for v := range 256 {
				for w := range 256 {
					i := with(with(plain(), p, v), q, w)
					b := string([]byte{byte(i.Op), byte(i.A), byte(i.B), byte(i.C)})
					put, is := code.Put(i)
					got, back := code.Get(b)
					if put != b || !is || len(got) != 1 || got[0] != i || !back {
						t.Fatalf("%s %d, %s %d: Put %q %t, Get %v %t", p.name, v, q.name, w, put, is, got, back)
					}
				}
			}
		}
	}
}

func TestP1901PutOfNoBytes(t *testing.T) {
	for _, p := range parts() {
		for _, v := range outs() {
			wrong := with(plain(), p, v)
			want(t, fmt.Sprintf("%s %d", p.name, v), putTold(wrong), notPut)
			want(t, fmt.Sprintf("%s %d, all others 0", p.name, v), putTold(with(api.Ins{}, p, v)), notPut)
			for _, n := range []int{2, 3, 200} {
				for _, at := range []int{0, 1, n - 1} {
					l := listed(n)
					l[at] = with(l[at], p, v)
					want(t, fmt.Sprintf("%s %d, at %d of %d", p.name, v, at, n), putTold(l...), notPut)
				}
			}
		}
	}
	want(t, "all at once", putTold(api.Ins{Op: -1, A: -1, B: 256, C: 256}), notPut)
}

func TestP1901PutOfEveryNumberOfInstructions(t *testing.T) {
	for n := range 600 {
		want(t, fmt.Sprintf("Put of %d", n), putTold(listed(n)...), putAsked(listed(n)...))
		want(t, fmt.Sprintf("Put of %d zeros", n), putTold(make([]api.Ins, n)...), putAsked(make([]api.Ins, n)...))
	}
	for _, n := range []int{1 << 16, 1<<16 + 1, 1 << 18} {
		want(t, fmt.Sprintf("Put of %d", n), putTold(listed(n)...), notPut)
	}
	want(t, "the most, all zeros", putTold(make([]api.Ins, 200)...), fmt.Sprintf("%q true", strings.Repeat("\x00", 800)))
	want(t, "one more", putTold(make([]api.Ins, 201)...), notPut)
	want(t, "too many, and wrong ones", putTold(append(listed(200), api.Ins{C: 256})...), notPut)
}

func TestP1901GetOfEveryLength(t *testing.T) {
	all := strings.Repeat("\x01\x02\x03\xff\x10\x00\x20", 400)
	for n := range all {
		wanted := notGot
		if n%4 == 0 && n <= 800 {
			wanted = getAsked(all[:n])
		}
		want(t, fmt.Sprintf("Get of %d bytes", n), getTold(all[:n]), wanted)
	}
	for _, n := range []int{1 << 16, 1 << 20, 1<<20 + 4} {
		want(t, fmt.Sprintf("Get of %d bytes", n), getTold(strings.Repeat("\x00", n)), notGot)
	}
}

func TestP1901GetOfPut(t *testing.T) {
	for n := range 201 {
		b, _ := code.Put(listed(n)...)
		want(t, fmt.Sprintf("bytes of %d", n), len(b), 4*n)
		want(t, fmt.Sprintf("%d back", n), getTold(b), fmt.Sprint(listed(n), true))
		l, _ := code.Get(b)
		want(t, fmt.Sprintf("%d put again", n), putTold(l...), fmt.Sprintf("%q true", b))
	}
}

func TestP1901Name(t *testing.T) {
	want(t, "how many", len(names()), 23)
	for op := -1000; op <= 1000; op++ {
		want(t, fmt.Sprintf("Name(%d)", op), code.Name(op), nameAsked(op))
	}
	for _, op := range outs() {
		want(t, fmt.Sprintf("Name(%d)", op), code.Name(op), nameAsked(op))
	}
	for op, name := range map[int]string{api.Halt: "halt", api.Const: "const", api.Add: "add", api.Sub: "sub", api.Mul: "mul", api.Jump: "jump", api.Zero: "zero", api.Alloc: "alloc", api.Load: "load", api.Put: "put", api.Word: "word", api.SetWord: "setword", api.Root: "root", api.SetRoot: "setroot", api.Commit: "commit", api.Abort: "abort", api.Out: "out", api.IsNil: "isnil", api.Same: "same", api.Nil: "nil", api.Move: "move", api.Slots: "slots", api.Words: "words"} {
		want(t, fmt.Sprintf("Name of the operation %d", op), code.Name(op), name)
	}
}

// TestP1901Text has numbers of all kinds: what may not be is told likewise.
func TestP1901Text(t *testing.T) {
	for op := -10; op < 300; op++ {
		for _, v := range []int{0, 1, 9, 10, 99, 100, 200, 255} {
			i := api.Ins{Op: op, A: v, B: 255 - v, C: v / 2}
			want(t, fmt.Sprintf("Text(%v)", i), code.Text(i), fmt.Sprintf("%s %d %d %d", nameAsked(op), i.A, i.B, i.C))
		}
	}
	for _, p := range parts() {
		for _, v := range outs() {
			i := with(plain(), p, v)
			want(t, fmt.Sprintf("Text(%v)", i), code.Text(i), fmt.Sprintf("%s %d %d %d", nameAsked(i.Op), i.A, i.B, i.C))
		}
	}
	want(t, "Text of zeros", code.Text(api.Ins{}), "halt 0 0 0")
	want(t, "Text without a name", code.Text(api.Ins{Op: 23, A: 1, B: 2, C: 3}), " 1 2 3")
}

func TestP1901Target(t *testing.T) {
	for b := range 256 {
		for c := range 256 {
			for _, op := range []int{5, 6} {
				i := api.Ins{Op: op, A: (b + c) % 4, B: b, C: c}
				if at, is := code.Target(i); at != b+256*c || !is {
					t.Fatalf("Target(%v): %d %t", i, at, is)
				}
			}
		}
	}
	for _, a := range append(outs(), 0, 1, 3, 4, 255) {
		want(t, fmt.Sprintf("a jump with A %d", a), targetTold(api.Ins{Op: 5, A: a, B: 4, C: 2}), "516 true")
		want(t, fmt.Sprintf("a zero with A %d", a), targetTold(api.Ins{Op: 6, A: a, B: 4, C: 2}), "516 true")
	}
}

func TestP1901TargetOfOthers(t *testing.T) {
	ops := outs()
	for op := -300; op <= 600; op++ {
		ops = append(ops, op)
	}
	for _, op := range ops {
		if op == api.Jump || op == api.Zero {
			continue
		}
		for _, v := range []int{0, 1, 5, 255} {
			want(t, fmt.Sprintf("operation %d with %d", op, v), targetTold(api.Ins{Op: op, A: v, B: v, C: v}), notTarget)
		}
	}
}

// TestP1901TargetOfNoBytes holds the words alone, also where a number is none that a program may have.
func TestP1901TargetOfNoBytes(t *testing.T) {
	for _, v := range outs() {
		for _, op := range []int{5, 6} {
			want(t, fmt.Sprintf("operation %d with B %d", op, v), targetTold(api.Ins{Op: op, B: v, C: 3}), fmt.Sprint(v+768, true))
			want(t, fmt.Sprintf("operation %d with C %d", op, v), targetTold(api.Ins{Op: op, B: 3, C: v}), fmt.Sprint(3+256*v, true))
		}
	}
}

func TestP1901KeepsToItsOwn(t *testing.T) {
	l := append(listed(6), api.Ins{Op: 1, A: 2, B: 3, C: 4})[:6]
	kept := slices.Clone(l[:7])
	b, _ := code.Put(l...)
	want(t, "what was put", fmt.Sprint(l[:7]), fmt.Sprint(kept))
	clear(l[:7])
	want(t, "Put, and the instructions turned", fmt.Sprintf("%q true", b), putAsked(kept[:6]...))
	first, _ := code.Get(b)
	second, _ := code.Get(b)
	clear(first[:cap(first)])
	want(t, "Get, and another answer turned", fmt.Sprint(second), fmt.Sprint(kept[:6]))
	want(t, "Get anew", getTold(b), fmt.Sprint(kept[:6], true))
}
