package trap_test

import (
	"errors"
	"fmt"
	"math"
	"slices"
	"strings"
	"testing"

	"flitting/api"
	"flitting/trap"
)

// broken panics whatever it is asked.
type broken struct{}

func (b *broken) Error() string   { panic("no text") }
func (b *broken) Unwrap() error   { panic("nothing inside") }
func (b *broken) As(any) bool     { panic("of no kind") }
func (b *broken) Is(e error) bool { panic("like nothing") }

// eager says that it is like every other error.
type eager struct{}

func (eager) Error() string   { return "eager" }
func (eager) Is(e error) bool { return true }

// posing tells a Trap of its own when it is asked for one.
type posing struct{ as *trap.Trap }

func (p posing) Error() string { return "posing" }
func (p posing) As(target any) bool {
	t, ok := target.(**trap.Trap)
	if ok {
		*t = p.as
	}
	return ok && p.as != nil && p.as.At != -1 // of an At of -1 it lies: it set the target all the same
}

// listed can't be held against another one of its kind.
type listed []error

func (l listed) Error() string   { return "listed" }
func (l listed) Unwrap() []error { return l }

func wrapped(err error, wheres ...string) error {
	for _, w := range slices.Backward(wheres) {
		err = trap.In(err, w)
	}
	return err
}

// asked is what all calls tell of an error.
type asked struct {
	errno api.Errno
	at    int
	path  []string
}

func check(t *testing.T, what string, err error, want asked) {
	t.Helper()
	if got := trap.Errno(err); got != want.errno {
		t.Errorf("%s: Errno %d, not %d", what, got, want.errno)
	}
	if got := trap.At(err); got != want.at {
		t.Errorf("%s: At %d, not %d", what, got, want.at)
	}
	if got := trap.Path(err); !slices.Equal(got, want.path) {
		t.Errorf("%s: Path %q, not %q", what, got, want.path)
	}
	if got := trap.Is(err, api.OK); got != (err == nil) {
		t.Errorf("%s: Is OK %t", what, got)
	}
	for e := api.Errno(-20); e <= 20; e++ {
		if got := trap.Is(err, e); e != api.OK && got != (e == want.errno) {
			t.Errorf("%s: Is %d %t", what, e, got)
		}
	}
}

func text(t *testing.T, what string, err error, want string) {
	t.Helper()
	if got := err.Error(); got != want {
		t.Errorf("%s: Error %q, not %q", what, got, want)
	}
}

func TestP101New(t *testing.T) {
	for _, at := range []int{0, 4, -4, math.MaxInt, math.MinInt} {
		if err := trap.New(api.OK, at); err != nil {
			t.Errorf("New(OK, %d): %v", at, err)
		}
		for e := api.Errno(-20); e <= 20; e++ {
			if e == api.OK {
				continue
			}
			err := trap.New(e, at)
			check(t, fmt.Sprint("New ", e, at), err, asked{errno: e, at: at})
			if x, ok := err.(*trap.Trap); !ok || *x != (trap.Trap{Errno: e, At: at}) {
				t.Errorf("New(%d, %d): %#v", e, at, err)
			}
			if errors.Unwrap(err) != nil {
				t.Errorf("New(%d, %d) wraps something", e, at)
			}
		}
	}
	a, b := trap.New(7, 4), trap.New(7, 4)
	if a == b {
		t.Error("New tells the same Trap twice")
	}
}

func TestP101InWraps(t *testing.T) {
	if err := trap.In(nil, "load"); err != nil {
		t.Errorf("In(nil): %v", err)
	}
	inner := trap.New(api.ErrNil, 4)
	kinds := []error{inner, trap.In(inner, "load"), errors.New("plain"), fmt.Errorf("outer: %w", inner), eager{}, &broken{}, (*trap.Trap)(nil)}
	for _, err := range kinds {
		for _, where := range []string{"load", "", ": ", "a: b", "\xff\x00"} {
			if got := errors.Unwrap(trap.In(err, where)); got != err {
				t.Errorf("In(%T, %q) wraps %v", err, where, got)
			}
			if got := trap.Path(trap.In(err, where)); len(got) == 0 || got[0] != where {
				t.Errorf("In(%T, %q) has the path %q", err, where, got)
			}
		}
	}
	if a := trap.In(inner, "load"); a == trap.In(inner, "load") || a == trap.In(a, "load") {
		t.Error("In tells the same error twice")
	}
	var found *trap.Trap
	if !errors.As(wrapped(inner, "a", "b"), &found) || error(found) != inner {
		t.Errorf("errors.As finds %v", found)
	}
	if !errors.Is(wrapped(inner, "a", "b"), inner) {
		t.Error("errors.Is does not find the Trap")
	}
}

func TestP101Finds(t *testing.T) {
	inner := trap.New(api.ErrNil, 4)
	check(t, "nil", nil, asked{})
	check(t, "one level", trap.In(inner, "load"), asked{7, 4, []string{"load"}})
	check(t, "two levels", wrapped(inner, "run", "load"), asked{7, 4, []string{"run", "load"}})
	check(t, "the same where", wrapped(inner, "x", "x", "", "x"), asked{7, 4, []string{"x", "x", "", "x"}})
	check(t, "below 0", wrapped(trap.New(-3, -9), "x"), asked{-3, -9, []string{"x"}})
	check(t, "made by hand", trap.In(&trap.Trap{Errno: 5, At: 6}, "x"), asked{5, 6, []string{"x"}})
	check(t, "of no number", trap.In(&trap.Trap{At: 6}, "x"), asked{0, 6, []string{"x"}})
	check(t, "zero", &trap.Trap{}, asked{})
}

func TestP101OtherKinds(t *testing.T) {
	inner := trap.New(api.ErrNil, 4)
	check(t, "plain", errors.New("plain"), asked{})
	check(t, "plain in", wrapped(errors.New("plain"), "a", "b"), asked{path: []string{"a", "b"}})
	check(t, "outer", fmt.Errorf("outer: %w", inner), asked{7, 4, nil})
	check(t, "outer of in", fmt.Errorf("outer: %w", wrapped(inner, "a", "b")), asked{7, 4, []string{"a", "b"}})
	between := trap.In(fmt.Errorf("outer: %w", fmt.Errorf("inner: %w", trap.In(inner, "b"))), "a")
	check(t, "between", between, asked{7, 4, []string{"a", "b"}})
	check(t, "hidden", trap.In(fmt.Errorf("outer: %v", trap.In(inner, "b")), "a"), asked{path: []string{"a"}})
	check(t, "eager", eager{}, asked{})
	check(t, "eager in", wrapped(eager{}, "a"), asked{path: []string{"a"}})
}

func TestP101FirstOfMany(t *testing.T) {
	a, b := trap.New(7, 4), trap.New(9, 5)
	check(t, "joined", errors.Join(a, b), asked{7, 4, nil})
	check(t, "joined in", trap.In(errors.Join(errors.New("plain"), trap.In(b, "b"), a), "x"), asked{9, 5, []string{"x", "b"}})
	check(t, "listed", trap.In(listed{trap.In(a, "a"), b}, "x"), asked{7, 4, []string{"x", "a"}})
	check(t, "nil Trap ahead", errors.Join((*trap.Trap)(nil), a), asked{})
	check(t, "posing", trap.In(posing{&trap.Trap{Errno: 8, At: 2}}, "x"), asked{8, 2, []string{"x"}})
	check(t, "posing as none", posing{}, asked{})
	check(t, "posing and denied", posing{&trap.Trap{Errno: 8, At: -1}}, asked{})
}

func TestP101NilTrap(t *testing.T) {
	var none *trap.Trap
	check(t, "nil Trap", none, asked{})
	check(t, "nil Trap in", wrapped(none, "a", "b"), asked{path: []string{"a", "b"}})
}

func TestP101NeverPanics(t *testing.T) {
	check(t, "broken", &broken{}, asked{})
	check(t, "broken in", wrapped(&broken{}, "a", "b"), asked{path: []string{"a", "b"}})
	check(t, "nil broken in", wrapped((*broken)(nil), "a"), asked{path: []string{"a"}})
	text(t, "broken", wrapped(&broken{}, "a", "b"), "a: b: ")
}

func TestP101PathIsNew(t *testing.T) {
	err := wrapped(trap.New(7, 4), "a", "b")
	trap.Path(err)[0] = "other"
	check(t, "asked again", err, asked{7, 4, []string{"a", "b"}})
}

func TestP102Trap(t *testing.T) {
	text(t, "ordinary", trap.New(api.ErrNil, 4), "error 7 at 4")
	text(t, "two digits", trap.New(api.ErrFuel, 1234567890), "error 11 at 1234567890")
	text(t, "at 0", trap.New(1, 0), "error 1 at 0")
	text(t, "below 0", trap.New(-3, -9), "error -3 at -9")
	text(t, "greatest", trap.New(math.MaxInt, math.MinInt), "error 9223372036854775807 at -9223372036854775808")
	text(t, "made by hand", &trap.Trap{Errno: 2, At: 5}, "error 2 at 5")
	text(t, "of no number", &trap.Trap{At: 5}, "error 0 at 5")
	text(t, "nil", (*trap.Trap)(nil), "")
	text(t, "zero is as nil", &trap.Trap{}, "")
}

func TestP102In(t *testing.T) {
	inner := trap.New(api.ErrNil, 4)
	text(t, "example", trap.In(inner, "load"), "load: error 7 at 4")
	text(t, "two levels", wrapped(inner, "run", "load"), "run: load: error 7 at 4")
	text(t, "no where", wrapped(inner, "", ""), ": : error 7 at 4")
	text(t, "nil Trap", wrapped((*trap.Trap)(nil), "a", "b"), "a: b: ")
	text(t, "plain", wrapped(errors.New("plain"), "a"), "a: plain")
	outer := fmt.Errorf("outer of %w, that is all", trap.In(inner, "b"))
	text(t, "between", wrapped(outer, "x", "a"), "x: a: outer of b: error 7 at 4, that is all")
	text(t, "joined", wrapped(errors.Join(trap.In(inner, "b"), errors.New("plain")), "a"), "a: b: error 7 at 4\nplain")
	text(t, "listed", wrapped(listed{trap.In(inner, "b")}, "a"), "a: listed")
}

func TestP102ManyLevels(t *testing.T) {
	const levels = 1 << 16
	err := trap.New(api.ErrHeap, 3)
	wheres := make([]string, levels)
	for i := range wheres {
		wheres[i] = fmt.Sprint("level", i)
	}
	err = wrapped(err, wheres...)
	check(t, "levels", err, asked{6, 3, wheres})
	text(t, "levels", err, strings.Join(wheres, ": ")+": error 6 at 3")
}
