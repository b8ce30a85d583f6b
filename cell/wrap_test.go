package cell_test

import (
	"errors"
	"fmt"
	"testing"

	"reedbed/api"
	"reedbed/cell"
	"reedbed/sample"
)

// unwraps holds what Unwrap answers against these.
func unwraps(t *testing.T, err error, cause api.Errno, note string) {
	t.Helper()
	// Asking changes nothing.
	for range 2 {
		if c, n, ok := cell.Unwrap(err); c != cause || n != note || !ok {
			t.Fatalf("Unwrap of %T: %d, %q, %v; want %d, %q, true", err, c, n, ok, cause, note)
		}
	}
}

// doesNot holds what Unwrap answers against nothing.
func doesNot(t *testing.T, err error) {
	t.Helper()
	if c, n, ok := cell.Unwrap(err); c != api.OK || n != "" || ok {
		t.Fatalf("Unwrap of %T: %d, %q, %v; want OK, nothing, false", err, c, n, ok)
	}
}

// tells holds an error's text against this one.
func tells(t *testing.T, err error, want string) {
	t.Helper()
	if err == nil || err.Error() != want {
		t.Fatalf("tells %q; want %q", err, want)
	}
}

// other is an error of another type, and may have a text that Wrap's have.
type other string

func (o other) Error() string { return string(o) }

// list is an error that no == may be asked of.
type list []string

func (l list) Error() string { return fmt.Sprint([]string(l)) }

// above is an error that wraps another one, and has no text of that.
type above struct{ err error }

func (a above) Error() string { return "above" }
func (a above) Unwrap() error { return a.err }

// falls is an error whose methods of that kind panic, or all.
type falls struct{ kind string }

func (f *falls) fall(kind string) {
	if f.kind == kind || f.kind == "all" {
		panic("a method that panics")
	}
}

func (f *falls) Error() string { f.fall("error"); return "falls" }
func (f *falls) Unwrap() error { f.fall("unwrap"); return nil }
func (f *falls) Is(error) bool { f.fall("is"); return false }
func (f *falls) As(any) bool   { f.fall("as"); return false }

// fallings are errors that panic when they are asked what they are, or wrap.
func fallings() []error {
	var none *falls
	return []error{&falls{"unwrap"}, &falls{"as"}, &falls{"all"}, none, ends{}}
}

// ends is an error that wraps fewer than it thinks, and panics by that.
type ends []error

func (e ends) Error() string   { return "ends" }
func (e ends) Unwrap() []error { return e[1:] }

// liar is an error that says of itself that it is any other one.
type liar struct{}

func (liar) Error() string { return "liar" }
func (liar) As(any) bool   { return true }

// yes is an error that says of itself that it is the same as any other one.
type yes struct{}

func (yes) Error() string { return "yes" }
func (yes) Is(error) bool { return true }

// P16.2: Wrap

func TestWrapOfOK(t *testing.T) {
	for _, note := range notes() {
		if err := cell.Wrap(api.OK, note); err != nil {
			t.Errorf("Wrap(OK, %q) = %v; want no error", note, err)
		}
	}
}

func TestWrapTells(t *testing.T) {
	for _, c := range []struct {
		cause api.Errno
		note  string
		want  string
	}{
		{api.ErrPanic, "boom", "reedbed: error 13: boom"},
		{api.ErrSink, "", "reedbed: error 12"},
		{api.ErrNil, "x", "reedbed: error 1: x"},
		{api.ErrMany, " ", "reedbed: error 20:  "},
		{api.ErrCancel, ": ", "reedbed: error 14: : "},
		{api.ErrCancel, "a: b", "reedbed: error 14: a: b"},
		{api.ErrLong, "\xff\xe2\x82", "reedbed: error 10: \xff\xe2\x82"},
		{api.ErrLong, "a\n\x00", "reedbed: error 10: a\n\x00"},
		{api.ErrBig, "%w %d", "reedbed: error 16: %w %d"},
		{99, "none of api's", "reedbed: error 99: none of api's"},
		{99, "", "reedbed: error 99"},
		{-1, "", "reedbed: error"},
		{-1, "below", "reedbed: error: below"},
		{-13, "boom", "reedbed: error: boom"},
		{1 << 32, "great", "reedbed: error 4294967296: great"},
	} {
		tells(t, cell.Wrap(c.cause, c.note), c.want)
	}
}

func TestWrapTellsEachCauseAndNote(t *testing.T) {
	for _, cause := range sample.Causes() {
		tells(t, cell.Wrap(cause, ""), cause.Error())
		for _, note := range notes() {
			if note != "" {
				tells(t, cell.Wrap(cause, note), cause.Error()+": "+note)
			}
		}
	}
}

func TestWrapIsItsCauseAlone(t *testing.T) {
	for _, cause := range sample.Causes() {
		for _, note := range notes() {
			err := cell.Wrap(cause, note)
			if errors.Is(err, api.OK) || errors.Is(err, nil) || errors.Is(err, errors.New(err.Error())) {
				t.Errorf("Wrap(%d, %q) is no cause too", cause, note)
			}
			for _, other := range append(sample.Causes(), cause+1, cause-1, -cause) {
				if is := errors.Is(err, other); is != (cause == other) {
					t.Errorf("Wrap(%d, %q) is %d: %v", cause, note, other, is)
				}
			}
		}
	}
}

func TestWrapAgainIsItsCauseAlone(t *testing.T) {
	for _, cause := range sample.Causes() {
		err := fmt.Errorf("once more: %w", fmt.Errorf("run: %w", cell.Wrap(cause, "x")))
		for _, other := range append(sample.Causes(), api.OK) {
			if is := errors.Is(err, other); is != (cause == other) {
				t.Errorf("Wrap(%d), wrapped again, is %d: %v", cause, other, is)
			}
		}
		tells(t, err, "once more: run: "+cause.Error()+": x")
	}
}

// P16.2: Unwrap

func TestUnwrapOfWrap(t *testing.T) {
	for _, cause := range sample.Causes() {
		for _, note := range notes() {
			err := cell.Wrap(cause, note)
			unwraps(t, err, cause, note)
			text := err.Error()
			again := fmt.Errorf("run: %w", err)
			unwraps(t, again, cause, note)
			unwraps(t, fmt.Errorf("%w", again), cause, note)
			unwraps(t, fmt.Errorf("%w, behind which %d and more", fmt.Errorf("a: b: %w", again), 7), cause, note)
			unwraps(t, err, cause, note)
			tells(t, err, text)
		}
	}
}

func TestUnwrapOfAnErrno(t *testing.T) {
	for _, cause := range append(sample.Causes(), api.OK) {
		var err error = cause
		unwraps(t, err, cause, "")
		for range 5 {
			err = fmt.Errorf("run: %w: behind", err)
			unwraps(t, err, cause, "")
		}
	}
}

func TestUnwrapOfErrorsThatAreDeep(t *testing.T) {
	for _, depth := range []int{1, 2, 100, 1<<16 - 1} {
		wrapped, number, none := cell.Wrap(api.ErrPanic, "boom"), error(api.ErrSink), errors.New("none")
		joined, joinedNone := wrapped, none
		for range depth {
			wrapped, number, none = above{wrapped}, above{number}, above{none}
			joined, joinedNone = errors.Join(joined), errors.Join(joinedNone)
		}
		unwraps(t, wrapped, api.ErrPanic, "boom")
		unwraps(t, number, api.ErrSink, "")
		doesNot(t, none)
		unwraps(t, joined, api.ErrPanic, "boom")
		doesNot(t, joinedNone)
	}
	err := cell.Wrap(api.ErrPanic, "boom")
	for range 1000 {
		err = fmt.Errorf("%w", err)
	}
	unwraps(t, err, api.ErrPanic, "boom")
}

func TestUnwrapOfOthers(t *testing.T) {
	sink := api.ErrSink
	var none *api.Errno
	wrapped := cell.Wrap(api.ErrPanic, "boom")
	for _, err := range []error{
		nil, errors.New(""), errors.New("x"), other(""), other("x"), list{"x"}, list(nil), yes{},
		// They have Wrap's texts, and aren't of it.
		errors.New("reedbed: error 13"), errors.New("reedbed: error 13: boom"), other("reedbed: error 13: boom"), errors.New(wrapped.Error()),
		fmt.Errorf("run: %v", wrapped), fmt.Errorf("run: %v", sink), fmt.Errorf("%v: %w", wrapped, other("x")),
		// A pointer to an Errno is an error of another type.
		&sink, none,
		above{nil}, above{errors.New("x")}, above{above{nil}}, above{list{"x"}},
		errors.Join(), errors.Join(nil, nil), errors.Join(errors.New("x"), other("y")), errors.Join(errors.New("x"), fmt.Errorf("y: %w", above{})),
	} {
		doesNot(t, err)
		doesNot(t, above{err})
		doesNot(t, fmt.Errorf("run: %w", err))
		doesNot(t, errors.Join(err, err))
	}
}

func TestUnwrapOfJoined(t *testing.T) {
	x, wrapped, bare := errors.New("x"), cell.Wrap(api.ErrPanic, "boom"), cell.Wrap(api.ErrSource, "")
	for _, err := range []error{
		errors.Join(wrapped), errors.Join(x, wrapped), errors.Join(wrapped, x), errors.Join(nil, x, list{"y"}, wrapped), errors.Join(x, errors.Join(x, errors.Join(x, wrapped), x)),
		fmt.Errorf("%w and %w", x, wrapped), fmt.Errorf("%w and %w", wrapped, x), fmt.Errorf("run: %w", errors.Join(x, fmt.Errorf("y: %w", wrapped))),
		// The first one of two; an error of Wrap ahead of an Errno.
		errors.Join(wrapped, cell.Wrap(api.ErrSink, "later")), errors.Join(wrapped, bare), errors.Join(errors.Join(x, wrapped), bare), fmt.Errorf("%w and %w", wrapped, bare),
		errors.Join(wrapped, api.ErrSink), errors.Join(api.ErrSink, wrapped), errors.Join(api.OK, wrapped), fmt.Errorf("%w and %w", api.ErrSink, wrapped),
	} {
		unwraps(t, err, api.ErrPanic, "boom")
	}
	for _, err := range []error{
		errors.Join(bare), errors.Join(x, bare), errors.Join(bare, wrapped), errors.Join(api.ErrSink, bare), errors.Join(bare, api.ErrSink),
		errors.Join(api.ErrSource), errors.Join(x, api.ErrSource), errors.Join(api.ErrSource, x), errors.Join(api.ErrSource, api.ErrSink), errors.Join(x, fmt.Errorf("y: %w", errors.Join(api.ErrSource, api.OK))),
		fmt.Errorf("%w and %w", api.ErrSource, api.ErrSink),
	} {
		unwraps(t, err, api.ErrSource, "")
	}
}

// Rule 4 of the language, and the first sentence of the promises: no call
// panics, whatever it is given.

func TestUnwrapOfErrorsThatPanic(t *testing.T) {
	wrapped := cell.Wrap(api.ErrPanic, "boom")
	for _, err := range fallings() {
		doesNot(t, err)
		doesNot(t, above{err})
		doesNot(t, errors.Join(err, errors.New("x")))
		// What stands ahead of it is found.
		unwraps(t, errors.Join(wrapped, err), api.ErrPanic, "boom")
		unwraps(t, errors.Join(api.ErrSink, err), api.ErrSink, "")
	}
	// It isn't asked for its text, nor whether it is another one.
	for _, kind := range []string{"error", "is"} {
		unwraps(t, errors.Join(&falls{kind}, wrapped), api.ErrPanic, "boom")
		unwraps(t, errors.Join(&falls{kind}, api.ErrSink), api.ErrSink, "")
		doesNot(t, &falls{kind})
	}
}

func TestUnwrapOfErrorsThatLie(t *testing.T) {
	for _, err := range []error{liar{}, &liar{}, yes{}, &yes{}} {
		doesNot(t, err)
		doesNot(t, above{err})
		doesNot(t, errors.Join(errors.New("x"), err, yes{}))
	}
	// What stands ahead of one is found, and behind one that lies to errors.Is
	// alone.
	unwraps(t, errors.Join(cell.Wrap(api.ErrPanic, "boom"), liar{}), api.ErrPanic, "boom")
	unwraps(t, errors.Join(api.ErrSink, liar{}), api.ErrSink, "")
	unwraps(t, errors.Join(yes{}, cell.Wrap(api.ErrPanic, "boom")), api.ErrPanic, "boom")
	unwraps(t, errors.Join(yes{}, api.ErrSink), api.ErrSink, "")
}
