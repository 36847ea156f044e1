// Package trap has errors that are wrapped.
package trap

import (
	"errors"
	"strconv"
	"strings"

	"flitting/api"
)

// Trap is an error and where it was.
type Trap struct {
	Errno api.Errno
	At    int
}

// New makes one.
func New(e api.Errno, at int) error {
	if e == api.OK {
		return nil
	}
	return &Trap{Errno: e, At: at}
}

// In wraps an error.
func In(err error, where string) error {
	if err == nil {
		return nil
	}
	return &layer{where: where, err: err}
}

// Errno tells an error's number.
func Errno(err error) api.Errno {
	t := first[*Trap](err)
	if t == nil {
		return api.OK
	}
	return t.Errno
}

// At tells where it was.
func At(err error) int {
	t := first[*Trap](err)
	if t == nil {
		return 0
	}
	return t.At
}

// Is tells whether an error has a number.
func Is(err error, e api.Errno) bool {
	if e == api.OK {
		// An error without a Trap has no number either, but it is not none.
		return errors.Is(err, nil)
	}
	return errors.Is(number(Errno(err)), number(e))
}

// Path tells what an error went through.
func Path(err error) []string {
	var wheres []string
	for l := first[*layer](err); l != nil; l = first[*layer](l.err) {
		wheres = append(wheres, l.where)
	}
	return wheres
}

// Error tells it as a text.
func (t *Trap) Error() string {
	// A zero object is as a nil one.
	if t == nil || *t == (Trap{}) {
		return ""
	}
	return number(t.Errno).Error() + " at " + strconv.Itoa(t.At)
}

// number is an Errno as an error: errors.Is holds two of them against each other.
type number api.Errno

// Error tells it as a text.
func (n number) Error() string { return "error " + strconv.Itoa(int(n)) }

// layer is an error as seen from somewhere.
type layer struct {
	where string
	err   error
}

// Unwrap tells what was wrapped.
func (l *layer) Unwrap() error { return l.err }

// Error tells it as a text. It goes from layer to layer by itself: if each asked the next one for its text, many levels would be copied again and again.
func (l *layer) Error() string {
	var text strings.Builder
	for {
		text.WriteString(l.where)
		text.WriteString(": ")
		next := first[*layer](l.err)
		if next == nil || l.err != error(next) {
			text.WriteString(textOf(l.err))
			return text.String()
		}
		l = next
	}
}

// first is the first error of a kind that errors.As finds, or none. An error of another kind may panic when it is asked what it wraps: then nothing is found.
func first[E error](err error) (found E) {
	defer func() { _ = recover() }()
	var met E
	if errors.As(err, &met) {
		found = met
	}
	return found
}

// textOf is an error's text, or none if telling it panics.
func textOf(err error) (text string) {
	defer func() { _ = recover() }()
	return err.Error()
}
