package sector_test

import (
	"fmt"
	"maps"
	"slices"
	"strings"
	"testing"

	"flitting/api"
	"flitting/sector"
)

// story is a disk of two sectors as the document tells it: what lasts, and the writes since, gone through anew at each question.
type story struct {
	off   bool
	lasts map[int]string
	waits []string // the sector's digit and what it is
	deeds int
	armed bool
	more  int // deeds that are done ahead of the one that is armed
	keep  []int
}

func (s *story) twin() *story {
	t := *s
	t.lasts, t.waits = maps.Clone(s.lasts), slices.Clone(s.waits)
	return &t
}

// settle lets of what waits last what is told; how many are lost.
func (s *story) settle(stays func(i int) bool) int {
	lost := 0
	for i, w := range s.waits {
		if stays(i) {
			s.lasts[int(w[0]-'0')] = w[1:]
		} else {
			lost++
		}
	}
	s.waits = nil
	return lost
}

func (s *story) crash(keep ...int) int {
	s.armed = false
	if s.off {
		return 0
	}
	s.off = true
	return s.settle(func(i int) bool { return i < len(keep) && keep[i]%2 != 0 })
}

// barrier is a deed without a write of its own.
const barrier = ""

func (s *story) deed(write string) api.Errno {
	switch {
	case s.off:
		return api.ErrOff
	case strings.HasPrefix(write, "2"):
		return api.ErrArg
	}
	if write != barrier {
		s.waits = append(s.waits, write)
	}
	if s.armed && s.more == 0 {
		s.crash(s.keep...)
		return api.ErrOff
	}
	if write == barrier {
		s.settle(func(int) bool { return true })
	}
	s.more--
	s.deeds++
	return api.OK
}

func (s *story) power() bool {
	was := s.off
	s.off = false
	return was
}

func (s *story) arm(n int, keep ...int) {
	s.armed, s.more, s.keep = n >= 0, n, keep
}

func (s *story) smash(k int, b string) bool {
	if s.off && k < 2 {
		s.lasts[k] = b
	}
	return s.off && k < 2
}

func (s *story) state() string {
	var out []string
	for k := range 2 {
		b := s.lasts[k]
		for _, w := range s.waits {
			if int(w[0]-'0') == k {
				b = w[1:]
			}
		}
		if s.off {
			b = "E3"
		}
		out = append(out, b)
	}
	return fmt.Sprint(strings.Join(out, ","), " on ", !s.off, " len 2 waits ", len(s.waits), " deeds ", s.deeds)
}

// act is done to a disk and to its story: what each of them answers.
type act struct {
	name string
	disk func(d *sector.Disk) any
	told func(s *story) any
}

func writes(w string) act {
	return act{"Write " + w, func(d *sector.Disk) any { return d.Write(int(w[0]-'0'), full(w[1:])) }, func(s *story) any { return s.deed(w) }}
}

func crashes(keep ...int) act {
	return act{fmt.Sprint("Crash ", keep), func(d *sector.Disk) any { return d.Crash(keep...) }, func(s *story) any { return s.crash(keep...) }}
}

func arms(n int, keep ...int) act {
	return act{fmt.Sprint("Arm ", n, keep), func(d *sector.Disk) any { d.Arm(n, keep...); return nil }, func(s *story) any { s.arm(n, keep...); return nil }}
}

func smashes(k int, b string) act {
	return act{fmt.Sprint("Smash ", k), func(d *sector.Disk) any { return d.Smash(k, full(b)) }, func(s *story) any { return s.smash(k, b) }}
}

func acts() []act {
	return []act{
		writes("0a"), writes("0b"), writes("1c"), writes("2d"),
		{"Barrier", func(d *sector.Disk) any { return d.Barrier() }, func(s *story) any { return s.deed(barrier) }},
		crashes(), crashes(1), crashes(0, 1),
		{"Power", func(d *sector.Disk) any { return d.Power() }, func(s *story) any { return s.power() }},
		arms(-1, 1), arms(0, 0, 1), arms(1, 1), arms(2, 1, 1, 1),
		smashes(1, "e"), smashes(2, "e"),
	}
}

// follow does all acts to twins of a disk, and whatever may come behind each of them.
func follow(t *testing.T, d *sector.Disk, s *story, depth int, path ...string) {
	ahead := s.state()
	for _, a := range acts() {
		twin, told := d.Twin(), s.twin()
		got, wanted := a.disk(twin), a.told(told)
		way := append(slices.Clone(path), a.name)
		if got != wanted || state(twin, 2) != told.state() {
			t.Fatalf("%s: %v, %s, not %v, %s", strings.Join(way, ", "), got, state(twin, 2), wanted, told.state())
		}
		if depth > 1 {
			follow(t, twin, told, depth-1, way...)
			continue
		}
		// What lasts is seen only behind a Crash.
		got, wanted = fmt.Sprint(twin.Crash(0, 1), twin.Power()), fmt.Sprint(told.crash(0, 1), told.power())
		if got != wanted || state(twin, 2) != told.state() {
			t.Fatalf("%s, Crash, Power: %v, %s, not %v, %s", strings.Join(way, ", "), got, state(twin, 2), wanted, told.state())
		}
	}
	if state(d, 2) != ahead {
		t.Fatalf("%s: what its twins do turns it from %s to %s", strings.Join(path, ", "), ahead, state(d, 2))
	}
}

// TestP202AllStories plays each story of a few acts, from a new disk on, and from one on which something lasts, waits and is armed.
func TestP202AllStories(t *testing.T) {
	follow(t, sector.New(2), &story{lasts: map[int]string{}}, 4)
	d, s := sector.New(2), &story{lasts: map[int]string{}}
	for _, a := range []act{writes("0p"), writes("1q"), acts()[4], writes("1r"), arms(1, 0, 1)} {
		a.disk(d)
		a.told(s)
	}
	follow(t, d, s, 4)
}
