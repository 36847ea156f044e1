package sector_test

import (
	"fmt"
	"math"
	"strings"
	"testing"

	"flitting/api"
	"flitting/sector"
)

// full is a sector's bytes that begin with a text.
func full(s string) string { return s + strings.Repeat("\x00", api.Sector-len(s)) }

// show is what Read tells of a disk's first sectors, without the zeros behind.
func show(d *sector.Disk, n int) string {
	var out []string
	for k := range n {
		b, errno := d.Read(k)
		switch {
		case errno != api.OK && b != "":
			out = append(out, fmt.Sprintf("error %d beside %q", errno, b))
		case errno != api.OK:
			out = append(out, fmt.Sprint("E", int(errno)))
		case len(b) != api.Sector:
			out = append(out, fmt.Sprint(len(b), " bytes"))
		default:
			out = append(out, strings.TrimRight(b, "\x00"))
		}
	}
	return strings.Join(out, ",")
}

// state is all that a disk tells of its first sectors and of itself.
func state(d *sector.Disk, n int) string {
	return fmt.Sprint(show(d, n), " on ", d.On(), " len ", d.Len(), " waits ", d.Waits(), " deeds ", d.Deeds())
}

func want[T comparable](t *testing.T, what string, got, wanted T) {
	t.Helper()
	if got != wanted {
		t.Errorf("%s: %v, not %v", what, got, wanted)
	}
}

// all lets every Write be done that is told as text: the sector's digit and what it is.
func all(t *testing.T, d *sector.Disk, writes ...string) {
	t.Helper()
	for _, w := range writes {
		want(t, "Write "+w, d.Write(int(w[0]-'0'), full(w[1:])), api.OK)
	}
}

func TestP201New(t *testing.T) {
	for n, length := range map[int]int{0: 0, 1: 1, 4: 4, 2999: 2999, 3000: 3000, 3001: 3000, math.MaxInt: 3000, -1: 0, math.MinInt: 0} {
		d := sector.New(n)
		want(t, fmt.Sprint("New ", n), fmt.Sprint(d.Len(), d.On(), d.Waits(), d.Deeds()), fmt.Sprint(length, true, 0, 0))
		want(t, fmt.Sprint("sectors of New ", n), show(d, length+1), strings.Repeat(",", length)+"E1")
		want(t, fmt.Sprint("the last of New ", n), d.Write(length-1, full("x")) == api.OK, length > 0)
	}
}

func TestP201NewOfNoSectors(t *testing.T) {
	d := sector.New(0)
	want(t, "Write", d.Write(0, full("x")), api.ErrArg)
	want(t, "Barrier", d.Barrier(), api.OK)
	want(t, "Deeds", d.Deeds(), 1)
	want(t, "Twin", state(d.Twin(), 1), state(d, 1))
	want(t, "Crash", d.Crash(1), 0)
	want(t, "Write without power", d.Write(0, full("x")), api.ErrOff)
	want(t, "Barrier without power", d.Barrier(), api.ErrOff)
	want(t, "Smash", d.Smash(0, full("x")), false)
	want(t, "Power", d.Power(), true)
	want(t, "On", d.On(), true)
}

func TestP201Write(t *testing.T) {
	d := sector.New(3)
	all(t, d, "0a", "2b", "0c")
	want(t, "written", state(d, 4), "c,,b,E1 on true len 3 waits 3 deeds 3")
	bytes := "\xff\x00 0123456789abcdefghijklmnopqr\x80"
	want(t, "Write", d.Write(1, bytes), api.OK)
	got, _ := d.Read(1)
	want(t, "any bytes", got, bytes)
}

func TestP201WriteRefuses(t *testing.T) {
	d := sector.New(3)
	all(t, d, "0a")
	for _, k := range []int{-1, 3, math.MinInt, math.MaxInt} {
		want(t, fmt.Sprint("sector ", k), d.Write(k, full("x")), api.ErrArg)
	}
	for _, n := range []int{0, 1, 31, 33, 64} {
		want(t, fmt.Sprint("bytes ", n), d.Write(1, strings.Repeat("x", n)), api.ErrArg)
	}
	want(t, "nothing is done", state(d, 3), "a,, on true len 3 waits 1 deeds 1")
	d.Crash()
	for _, k := range []int{-1, 0, 3} {
		want(t, fmt.Sprint("no power, sector ", k), d.Write(k, full("x")), api.ErrOff)
		want(t, fmt.Sprint("no power, no bytes, sector ", k), d.Write(k, ""), api.ErrOff)
	}
	d.Power()
	want(t, "nothing was done", state(d, 3), ",, on true len 3 waits 0 deeds 1")
}

func TestP201Read(t *testing.T) {
	d := sector.New(2)
	all(t, d, "0a", "0b", "1c")
	want(t, "the last one", show(d, 2), "b,c")
	d.Barrier()
	all(t, d, "0d")
	want(t, "behind a Barrier", show(d, 2), "d,c")
	for _, k := range []int{-1, 2, math.MinInt, math.MaxInt} {
		b, errno := d.Read(k)
		want(t, fmt.Sprint("sector ", k), fmt.Sprintf("%q %d", b, errno), `"" 1`)
	}
	d.Crash(1)
	for _, k := range []int{-1, 0, 1, 2} {
		b, errno := d.Read(k)
		want(t, fmt.Sprint("no power, sector ", k), fmt.Sprintf("%q %d", b, errno), `"" 3`)
	}
}

func TestP201ReadChangesNothing(t *testing.T) {
	d := sector.New(2)
	all(t, d, "0a")
	d.Arm(1)
	for range 5 {
		show(d, 3)
	}
	want(t, "behind Reads", state(d, 2), "a, on true len 2 waits 1 deeds 1")
	want(t, "Arm counts no Read", d.Barrier(), api.OK)
	want(t, "Arm", d.Barrier(), api.ErrOff)
}

func TestP201Barrier(t *testing.T) {
	d := sector.New(3)
	want(t, "of nothing", d.Barrier(), api.OK)
	all(t, d, "0a", "0b", "1c")
	want(t, "Barrier", d.Barrier(), api.OK)
	want(t, "nothing waits", state(d, 3), "b,c, on true len 3 waits 0 deeds 5")
	all(t, d, "0x", "2y")
	want(t, "what waits is lost alone", d.Crash(), 2)
	want(t, "no power", d.Barrier(), api.ErrOff)
	d.Power()
	want(t, "what lasts", state(d, 3), "b,c, on true len 3 waits 0 deeds 7")
}

func TestP202Crash(t *testing.T) {
	for _, x := range []struct {
		writes string
		keep   []int
		lost   int
		behind string
	}{
		{"", nil, 0, "p,q,r"},
		{"", []int{1, 1}, 0, "p,q,r"},
		{"0a 1b", []int{0, 1}, 1, "p,b,r"},
		{"0a 1b", []int{1, 0}, 1, "a,q,r"},
		{"0a 1b", []int{1, 1}, 0, "a,b,r"},
		{"0a 1b", nil, 2, "p,q,r"},
		{"0a 1b 2c", []int{1}, 2, "a,q,r"},
		{"0a 1b", []int{1, 1, 1, 1}, 0, "a,b,r"},
		{"0a 1b", []int{0, 0, 1, 1}, 2, "p,q,r"},
		{"0a 0b 0c", []int{1, 1, 1}, 0, "c,q,r"},
		{"0a 0b 0c", []int{1, 1, 0}, 1, "b,q,r"},
		{"0a 0b 0c", []int{1, 0, 0}, 2, "a,q,r"},
		{"0a 0b 0c", []int{0, 0, 0}, 3, "p,q,r"},
		{"0a 1b 0c 1d", []int{1, 0, 0, 1}, 2, "a,d,r"},
		{"0a 1b 2c", []int{2, 4, 6}, 3, "p,q,r"},
		{"0a 1b 2c", []int{3, -1, 255}, 0, "a,b,c"},
		{"0a 1b 2c", []int{-2, math.MinInt, math.MaxInt}, 2, "p,q,c"},
	} {
		d := sector.New(3)
		all(t, d, "0p", "1q", "2r")
		d.Barrier()
		all(t, d, strings.Fields(x.writes)...)
		deeds := d.Deeds()
		what := fmt.Sprint(x.writes, x.keep)
		want(t, what, d.Crash(x.keep...), x.lost)
		want(t, what+": no power", state(d, 3), fmt.Sprint("E3,E3,E3 on false len 3 waits 0 deeds ", deeds))
		want(t, what+": Power", d.Power(), true)
		want(t, what+": behind it", state(d, 3), fmt.Sprint(x.behind, " on true len 3 waits 0 deeds ", deeds))
	}
}

func TestP202CrashLeavesWhatLasts(t *testing.T) {
	d := sector.New(2)
	all(t, d, "0a", "1b")
	want(t, "Crash", d.Crash(1), 1)
	d.Power()
	want(t, "the same keep again", d.Crash(0, 0), 0)
	d.Power()
	want(t, "what lasted lasts", show(d, 2), "a,")
	all(t, d, "0c")
	want(t, "a write behind it", d.Crash(1), 0)
	d.Power()
	want(t, "lasts", show(d, 2), "c,")
}

func TestP202CrashWithoutPower(t *testing.T) {
	d := sector.New(2)
	all(t, d, "0a", "1b")
	d.Crash(1, 1)
	want(t, "once more", d.Crash(0, 0), 0)
	want(t, "nothing", state(d, 2), "E3,E3 on false len 2 waits 0 deeds 2")
	d.Arm(0)
	want(t, "armed", d.Crash(), 0)
	d.Power()
	want(t, "behind it", show(d, 2), "a,b")
	want(t, "not armed any more", d.Write(0, full("c")), api.OK)
}

func TestP202Power(t *testing.T) {
	d := sector.New(1)
	all(t, d, "0a")
	want(t, "with power", d.Power(), false)
	want(t, "nothing", state(d, 1), "a on true len 1 waits 1 deeds 1")
	d.Crash()
	want(t, "On", d.On(), false)
	want(t, "without", d.Power(), true)
	want(t, "On again", d.On(), true)
	want(t, "once more", d.Power(), false)
}

func TestP202ArmWrite(t *testing.T) {
	for n := range 4 {
		for _, keep := range [][]int{nil, {1, 1, 1, 1}, {0, 0, 1, 1}} {
			d := sector.New(4)
			d.Arm(n, keep...)
			what := fmt.Sprint("Arm ", n, keep)
			kept := make([]string, 4)
			for k := range n + 1 {
				errno := api.OK
				if k == n {
					errno = api.ErrOff
				}
				want(t, fmt.Sprint(what, " Write ", k), d.Write(k, full("x")), errno)
				if k < len(keep) && keep[k] == 1 {
					kept[k] = "x"
				}
			}
			want(t, what, state(d, 1), fmt.Sprint("E3 on false len 4 waits 0 deeds ", n))
			d.Power()
			want(t, what+" kept", show(d, 4), strings.Join(kept, ","))
			want(t, what+" goes out", d.Write(0, full("y")), api.OK)
		}
	}
}

func TestP202ArmBarrier(t *testing.T) {
	d := sector.New(3)
	all(t, d, "0a", "1b", "2c")
	d.Arm(0, 0, 1)
	want(t, "Barrier", d.Barrier(), api.ErrOff)
	want(t, "is not done", state(d, 1), "E3 on false len 3 waits 0 deeds 3")
	d.Power()
	want(t, "behind it", show(d, 3), ",b,")
	want(t, "goes out", d.Barrier(), api.OK)
	all(t, d, "0d")
	d.Arm(1)
	want(t, "one more", d.Barrier(), api.OK)
	want(t, "and the next", d.Barrier(), api.ErrOff)
	d.Power()
	want(t, "the one lasts", state(d, 3), "d,b, on true len 3 waits 0 deeds 6")
}

func TestP202ArmCountsWhatWouldBeOK(t *testing.T) {
	d := sector.New(2)
	d.Arm(1, 1, 1)
	want(t, "no such sector", d.Write(2, full("x")), api.ErrArg)
	want(t, "no such bytes", d.Write(0, "x"), api.ErrArg)
	want(t, "one more", d.Write(0, full("a")), api.OK)
	want(t, "no sector at the last", d.Write(2, full("x")), api.ErrArg)
	want(t, "no bytes at the last", d.Write(0, ""), api.ErrArg)
	want(t, "On", d.On(), true)
	want(t, "the last", d.Write(1, full("b")), api.ErrOff)
	d.Power()
	want(t, "behind it", state(d, 2), "a,b on true len 2 waits 0 deeds 1")
}

func TestP202ArmWithoutPower(t *testing.T) {
	d := sector.New(2)
	d.Crash()
	d.Arm(0, 1)
	want(t, "Write", d.Write(0, full("x")), api.ErrOff)
	want(t, "Barrier", d.Barrier(), api.ErrOff)
	d.Power()
	want(t, "is armed still", d.Write(0, full("a")), api.ErrOff)
	want(t, "On", d.On(), false)
	d.Power()
	want(t, "kept", show(d, 2), "a,")
	d.Arm(1)
	d.Crash()
	d.Arm(1)
	want(t, "errors do not count", d.Write(0, full("x")), api.ErrOff)
	d.Power()
	want(t, "one more", d.Write(0, full("b")), api.OK)
	want(t, "the next", d.Write(0, full("c")), api.ErrOff)
}

func TestP202ArmAgain(t *testing.T) {
	d := sector.New(2)
	for _, n := range []int{-1, -7, math.MinInt} {
		d.Arm(0, 1)
		d.Arm(n, 1)
		want(t, fmt.Sprint("Arm ", n), d.Write(0, full("a")), api.OK)
		want(t, fmt.Sprint("Arm ", n, ": Barrier"), d.Barrier(), api.OK)
	}
	d.Arm(math.MaxInt)
	want(t, "far away", d.Write(0, full("a")), api.OK)
	d.Arm(0, 1, 1)
	d.Arm(1, 0, 1)
	want(t, "the later one counts", d.Write(1, full("b")), api.OK)
	want(t, "and its keep", d.Write(0, full("c")), api.ErrOff)
	d.Power()
	want(t, "behind it", show(d, 2), "a,b")
}

func TestP202NothingIsArmedBehindACrash(t *testing.T) {
	d := sector.New(2)
	d.Arm(1, 1, 1)
	d.Crash()
	d.Power()
	all(t, d, "0a", "0b", "1c")
	want(t, "Barrier", d.Barrier(), api.OK)
	d.Arm(0)
	d.Barrier()
	d.Power()
	all(t, d, "0d", "0e")
	want(t, "behind what was armed", d.Barrier(), api.OK)
}

func TestP202ArmKeepsItsOwn(t *testing.T) {
	d := sector.New(1)
	keep := []int{1}
	d.Arm(0, keep...)
	twin := d.Twin()
	keep[0] = 0
	for _, x := range []*sector.Disk{d, twin} {
		x.Write(0, full("a"))
		x.Power()
		want(t, "kept", show(x, 1), "a")
	}
	keep = []int{3, 5}
	d.Write(0, full("a"))
	d.Crash(keep...)
	want(t, "handed in", fmt.Sprint(keep), "[3 5]")
}

func TestP202Smash(t *testing.T) {
	d := sector.New(2)
	all(t, d, "0a", "1b")
	d.Barrier()
	all(t, d, "0c")
	want(t, "with power", d.Smash(0, full("x")), false)
	want(t, "nothing", state(d, 2), "c,b on true len 2 waits 1 deeds 4")
	d.Crash(1)
	for _, k := range []int{-1, 2, math.MinInt, math.MaxInt} {
		want(t, fmt.Sprint("sector ", k), d.Smash(k, full("x")), false)
	}
	for _, n := range []int{0, 1, 31, 33} {
		want(t, fmt.Sprint("bytes ", n), d.Smash(0, strings.Repeat("x", n)), false)
	}
	want(t, "Smash", d.Smash(1, full("y")), true)
	want(t, "no deed", state(d, 2), "E3,E3 on false len 2 waits 0 deeds 4")
	d.Power()
	want(t, "behind it", show(d, 2), "c,y")
	d.Crash()
	d.Power()
	want(t, "it lasts", show(d, 2), "c,y")
	d.Crash()
	d.Smash(1, full("z"))
	want(t, "once more", d.Smash(1, full("w")), true)
	d.Power()
	want(t, "the last one", show(d, 2), "c,w")
}

func TestP202SmashLeavesWhatIsArmed(t *testing.T) {
	d := sector.New(1)
	d.Crash()
	d.Arm(0)
	d.Smash(0, full("x"))
	d.Power()
	want(t, "armed", d.Barrier(), api.ErrOff)
}

func TestP202Twin(t *testing.T) {
	d := sector.New(3)
	all(t, d, "0a")
	d.Barrier()
	all(t, d, "1b")
	d.Arm(2, 1, 1)
	twin := d.Twin()
	want(t, "just like it", state(twin, 4), state(d, 4))
	want(t, "other than it", twin != d, true)
	all(t, twin, "0c", "2x")
	all(t, d, "1d", "2y")
	want(t, "the one", state(d, 3), "a,d,y on true len 3 waits 3 deeds 5")
	want(t, "the other one", state(twin, 3), "c,b,x on true len 3 waits 3 deeds 5")
	want(t, "armed", fmt.Sprint(d.Barrier(), twin.Barrier()), fmt.Sprint(api.ErrOff, api.ErrOff))
	off := twin.Twin()
	want(t, "without power", state(off, 3), state(twin, 3))
	off.Smash(0, full("z"))
	for _, x := range []*sector.Disk{d, twin, off} {
		want(t, "Power", x.Power(), true)
	}
	want(t, "kept", show(d, 3)+" "+show(twin, 3)+" "+show(off, 3), "a,d, c,b, z,b,")
}

func TestP202TwinHasWritesOfItsOwn(t *testing.T) {
	for n := range 20 {
		d := sector.New(1)
		for range n {
			all(t, d, "0a")
		}
		twin := d.Twin()
		all(t, twin, "0b")
		all(t, d, "0c")
		for _, x := range []*sector.Disk{d, twin} {
			x.Barrier()
			x.Crash()
			x.Power()
		}
		want(t, fmt.Sprint("behind ", n), show(d, 1)+show(twin, 1), "cb")
	}
}

func TestP202NilAndZero(t *testing.T) {
	for what, d := range map[string]*sector.Disk{"nil": nil, "zero": {}} {
		for range 2 {
			d.Arm(0, 1)
			want(t, what+" Write", d.Write(0, full("x")), api.ErrArg)
			want(t, what+" Write of nothing", d.Write(-1, ""), api.ErrArg)
			want(t, what+" Read", show(d, 1), "E1")
			want(t, what+" Barrier", d.Barrier(), api.ErrArg)
			want(t, what+" Smash", d.Smash(0, full("x")), false)
			want(t, what+" Crash", d.Crash(1), 0)
			want(t, what+" Power", d.Power(), false)
			want(t, what, state(d, 1), "E1 on false len 0 waits 0 deeds 0")
			want(t, what+" Twin", d.Twin(), nil)
		}
	}
}
