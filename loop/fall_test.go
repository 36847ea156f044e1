package loop_test

import (
	"fmt"
	"slices"
	"strings"
	"testing"

	"flitting/api"
	"flitting/loop"
	"flitting/sector"
)

// The log of these stories: its sectors lie amid others.
const (
	storyFrom    = 1
	storyLog     = 6
	storySectors = 8
)

// story is a log as the document tells it: what counts, and the numbers.
type story struct {
	counts            []api.Change
	head, next, epoch int
}

// cut is what an act does in place of an Append.
const cut = -1

// act does to a log, and to its story, the same; the cells tell which act it was.
func act(l *loop.Loop, s *story, size, cell int) (api.Errno, api.Errno) {
	if size == cut {
		s.head, s.counts = s.next, nil
		s.epoch++
		return l.Cut(s.epoch), api.OK
	}
	c := changesFrom(cell, size)
	if s.next+size+1-s.head > storyLog {
		return l.Append(c...), api.ErrLog
	}
	s.counts = append(slices.Clone(s.counts), c...)
	s.next += size + 1
	return l.Append(c...), api.OK
}

func changesFrom(cell, size int) []api.Change {
	var c []api.Change
	for i := range size {
		c = append(c, api.Change{Cell: cell + i, Value: 7})
	}
	return c
}

// check holds all that a log tells against its story.
func check(t *testing.T, path string, d *sector.Disk, l *loop.Loop, s story) {
	t.Helper()
	wanted := fmt.Sprint(s.head, s.next, storyLog-(s.next-s.head)) + "; " + fmt.Sprint(s.counts, s.next, 0)
	got := tells(l) + "; " + scanned(d, storyFrom, storyLog, s.head, s.epoch)
	if got != wanted {
		t.Fatalf("%s: %s, not %s", path, got, wanted)
	}
	for _, k := range []int{0, 7} {
		if b, _ := d.Read(k); b != strings.Repeat("\x00", api.Sector) {
			t.Fatalf("%s: sector %d is %q", path, k, b)
		}
	}
}

// play does acts from a new log on: the disk, the log, and its story.
func play(t *testing.T, acts []int) (*sector.Disk, *loop.Loop, story) {
	t.Helper()
	d := sector.New(storySectors)
	l := made(t, d, storyFrom, storyLog, 0, 0, 1)
	s := story{epoch: 1}
	for i, size := range acts {
		got, wanted := act(l, &s, size, 100*i)
		path := fmt.Sprint("behind ", acts[:i+1])
		if got != wanted {
			t.Fatalf("%s: %d, not %d", path, got, wanted)
		}
		check(t, path, d, l, s)
	}
	return d, l, s
}

// all calls f with each list of acts of just so many.
func all(n int, f func(acts []int), ahead ...int) {
	if n == 0 {
		f(ahead)
		return
	}
	for _, size := range []int{cut, 0, 1, 2, 3, 5} {
		all(n-1, f, append(slices.Clone(ahead), size)...)
	}
}

func TestP701AllStories(t *testing.T) {
	all(5, func(acts []int) { play(t, acts) })
}

// TestP701Falls lets the power go at each deed of an Append, behind all stories of three acts, and keeps each choice of the writes: what is told then is what was told ahead of it, and with it the new group, if all of this lasts.
func TestP701Falls(t *testing.T) {
	all(3, func(acts []int) {
		d, l, s := play(t, acts)
		for size := range l.Room() {
			for k := range size + 2 {
				written := min(k+1, size+1)
				for mask := range 1 << written {
					fall(t, fmt.Sprint(acts, size, k, mask), d.Twin(), s, size, k, mask)
				}
			}
		}
	})
}

func fall(t *testing.T, path string, d *sector.Disk, s story, size, k, mask int) {
	t.Helper()
	var keep []int
	for i := range size + 1 {
		keep = append(keep, mask>>i&1)
	}
	d.Arm(k, keep...)
	l := made(t, d, storyFrom, storyLog, s.head, s.next, s.epoch)
	c := changesFrom(1000, size)
	if errno := l.Append(c...); errno != api.ErrOff || tells(l) != fmt.Sprint(s.head, s.next, storyLog-(s.next-s.head)) {
		t.Fatalf("%s: Append %d, %s", path, errno, tells(l))
	}
	d.Power()
	wanted := fmt.Sprint(s.counts, s.next, 0)
	if mask == 1<<(size+1)-1 {
		wanted = fmt.Sprint(append(slices.Clone(s.counts), c...), s.next+size+1, 0)
	}
	if got := scanned(d, storyFrom, storyLog, s.head, s.epoch); got != wanted {
		t.Fatalf("%s: Scan %s, not %s", path, got, wanted)
	}
	if errno := l.Append(c...); errno != api.OK || l.Next() != s.next+size+1 {
		t.Fatalf("%s: Append again %d, %s", path, errno, tells(l))
	}
	if got, wanted := scanned(d, storyFrom, storyLog, s.head, s.epoch), fmt.Sprint(append(slices.Clone(s.counts), c...), s.next+size+1, 0); got != wanted {
		t.Fatalf("%s: Scan again %s, not %s", path, got, wanted)
	}
}
