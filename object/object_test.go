package object_test

import (
	"fmt"
	"math"
	"testing"

	"flitting/api"
	"flitting/object"
)

func want[T comparable](t *testing.T, what string, got, wanted T) {
	t.Helper()
	if got != wanted {
		t.Errorf("%s: %#v, not %#v", what, got, wanted)
	}
}

// said is what Parse tells.
type said struct {
	slots, words int
	is           bool
}

// told is what the other calls tell; what stands beside a false must be zero.
type told struct {
	v  int
	is bool
}

func headerOf(slots, words int) told {
	v, is := object.Header(slots, words)
	return told{v, is}
}

func parsed(v int) said {
	slots, words, is := object.Parse(v)
	return said{slots, words, is}
}

func forwardTo(a int) told {
	v, is := object.Forward(a)
	return told{v, is}
}

func movedTo(v int) told {
	a, is := object.Forwarded(v)
	return told{a, is}
}

// hasShape is whether there may be an object of so many slots and words, by the document's words.
func hasShape(slots, words int) bool {
	return 0 <= slots && slots <= 15 && 0 <= words && words <= 30
}

// laid is an object, laid cell by cell: its header, its slots, its words; none, if there may be no such object.
func laid(slots, words int) []int {
	if !hasShape(slots, words) {
		return nil
	}
	l := []int{16_777_216 + 256*slots + words}
	for range slots {
		l = append(l, 0)
	}
	for range words {
		l = append(l, 0)
	}
	return l
}

// headerAsked, parseAsked, forwardAsked and movedAsked are what the document asks of the calls.
func headerAsked(slots, words int) told {
	if l := laid(slots, words); l != nil {
		return told{l[0], true}
	}
	return told{}
}

func parseAsked(v int) said {
	if v < 16_777_216 || v > 16_777_216+256*15+30 {
		return said{}
	}
	for slots := 0; slots <= 15; slots++ {
		if words := v - 16_777_216 - 256*slots; hasShape(slots, words) {
			return said{slots, words, true}
		}
	}
	return said{}
}

func forwardAsked(a int) told {
	if a >= 1 && a <= 100_000 {
		return told{33_554_432 + a, true}
	}
	return told{}
}

func movedAsked(v int) told {
	if v >= 33_554_433 && v <= 33_654_432 {
		return told{v - 33_554_432, true}
	}
	return told{}
}

// far are numbers that are far from all that may be, and such as come near to it where they go round.
func far() []int {
	l := []int{math.MinInt, math.MaxInt, math.MinInt / 2, math.MaxInt / 2, math.MinInt / 256, math.MaxInt / 256, math.MaxInt/256 + 1}
	for k := 20; k < 63; k++ {
		for by := -1; by <= 1; by++ {
			l = append(l, 1<<k+by, -1<<k+by)
		}
	}
	for _, v := range l[:len(l):len(l)] {
		l = append(l, v+16_777_216, v-16_777_216, v+33_554_432, v-33_554_432, v+16_777_731, v+33_554_433)
	}
	return l
}

// others are numbers that are the same as v in their lower bits alone, or but for their sign.
func others(v int) []int {
	l := []int{-v, -v - 1, ^v + 1<<26, v + api.Wrap, v - api.Wrap, v + math.MinInt}
	for k := 26; k < 63; k++ {
		l = append(l, v+1<<k, v-1<<k)
	}
	return l
}

func TestP1001Examples(t *testing.T) {
	want(t, "Size(2, 3)", object.Size(2, 3), 6)
	want(t, "Header(0, 0)", headerOf(0, 0), told{16_777_216, true})
	want(t, "Header(2, 3)", headerOf(2, 3), told{16_777_731, true})
	want(t, "Header(15, 30), the greatest", headerOf(15, 30), told{16_781_086, true})
	want(t, "Header(3, 2), the other way round", headerOf(3, 2), told{16_777_986, true})
	want(t, "Parse of it", parsed(16_777_986), said{3, 2, true})
}

func TestP1001OfEverySlotsAndWords(t *testing.T) {
	for slots := -300; slots <= 300; slots++ {
		for words := -300; words <= 300; words++ {
			want(t, fmt.Sprintf("Header(%d, %d)", slots, words), headerOf(slots, words), headerAsked(slots, words))
			want(t, fmt.Sprintf("Size(%d, %d)", slots, words), object.Size(slots, words), len(laid(slots, words)))
		}
	}
}

func TestP1001NoSuchObject(t *testing.T) {
	for _, v := range far() {
		for _, w := range []int{-1, 0, 1, 15, 16, 30, 31, v, -v} {
			want(t, fmt.Sprintf("Header(%d, %d)", v, w), headerOf(v, w), headerAsked(v, w))
			want(t, fmt.Sprintf("Header(%d, %d)", w, v), headerOf(w, v), headerAsked(w, v))
			want(t, fmt.Sprintf("Size(%d, %d)", v, w), object.Size(v, w), len(laid(v, w)))
			want(t, fmt.Sprintf("Size(%d, %d)", w, v), object.Size(w, v), len(laid(w, v)))
		}
	}
}

func TestP1001Parse(t *testing.T) {
	for slots := 0; slots <= 15; slots++ {
		for words := 0; words <= 30; words++ {
			v := laid(slots, words)[0]
			want(t, fmt.Sprintf("Parse(%d)", v), parsed(v), said{slots, words, true})
			want(t, fmt.Sprintf("Parse of Header(%d, %d)", slots, words), parsed(headerOf(slots, words).v), said{slots, words, true})
			for _, other := range others(v) {
				want(t, fmt.Sprintf("Parse(%d), that is like %d", other, v), parsed(other), said{})
			}
		}
	}
	for _, v := range []int{0, -1, 1, 16_777_215, 16_777_216 + 31, 16_777_216 + 255, 16_777_216 + 256*15 + 31, 16_777_216 + 256*16, 16_777_216 + 256*16 + 30, 16_777_216 + 65_536, 33_554_431, 33_554_432, 33_554_433, 33_554_432 + 256*2 + 3} {
		want(t, fmt.Sprintf("Parse(%d)", v), parsed(v), said{})
	}
	for _, v := range far() {
		want(t, fmt.Sprintf("Parse(%d)", v), parsed(v), parseAsked(v))
	}
}

// TestP1001P1002WhatEveryCellIs asks of each number from below all headers to above all forwards what it is: one of them, or none, never both.
func TestP1001P1002WhatEveryCellIs(t *testing.T) {
	headers, forwards := 0, 0
	for v := -1 << 20; v < 1<<26; v++ {
		p, m := parsed(v), movedTo(v)
		if p != parseAsked(v) || m != movedAsked(v) {
			t.Fatalf("%d: Parse %v, not %v; Forwarded %v, not %v", v, p, parseAsked(v), m, movedAsked(v))
		}
		if p.is {
			headers++
		}
		if m.is {
			forwards++
		}
	}
	want(t, "headers", headers, 16*31)
	want(t, "forwards", forwards, 100_000)
}

func TestP1002Forward(t *testing.T) {
	want(t, "Forward(1)", forwardTo(1), told{33_554_433, true})
	want(t, "Forward(100000)", forwardTo(100_000), told{33_654_432, true})
	for a := -200_000; a <= 300_000; a++ {
		if got := forwardTo(a); got != forwardAsked(a) {
			t.Fatalf("Forward(%d): %v, not %v", a, got, forwardAsked(a))
		}
	}
	for _, a := range far() {
		want(t, fmt.Sprintf("Forward(%d)", a), forwardTo(a), forwardAsked(a))
	}
}

func TestP1002Forwarded(t *testing.T) {
	for a := 1; a <= 100_000; a++ {
		if got := movedTo(forwardTo(a).v); got != (told{a, true}) {
			t.Fatalf("Forwarded of Forward(%d): %v", a, got)
		}
	}
	for _, a := range []int{1, 2, 16, 255, 256, 815, 65_536, 99_999, 100_000} {
		v := 33_554_432 + a
		want(t, fmt.Sprintf("Forwarded(%d)", v), movedTo(v), told{a, true})
		for _, other := range others(v) {
			want(t, fmt.Sprintf("Forwarded(%d), that is like %d", other, v), movedTo(other), told{})
		}
	}
	for _, v := range []int{0, -1, 1, 16, 100_000, 16_777_216, 16_777_217, 33_554_431, 33_554_432, 33_654_433, 50_331_647, 50_331_648, 50_331_649} {
		want(t, fmt.Sprintf("Forwarded(%d)", v), movedTo(v), told{})
	}
	for _, v := range far() {
		want(t, fmt.Sprintf("Forwarded(%d)", v), movedTo(v), movedAsked(v))
	}
}
