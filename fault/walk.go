package fault

import (
	"errors"
	"iter"
	"strconv"
	"strings"

	"posthorse/api"
)

// asFault: the fault that an error is.
func asFault(err error) (*Fault, bool) {
	f, ok := err.(*Fault)
	return f, ok
}

// value of a fault: of nil one with nothing.
func (f *Fault) value() Fault {
	if f == nil {
		return Fault{}
	}
	return *f
}

// below: what lies right below an error, and whether it is of a kind that is known here. Nothing lies below the others, even if they have an Unwrap of their own.
func below(err error) ([]error, bool) {
	switch e := err.(type) {
	case *Fault:
		if e == nil {
			return nil, true
		}
		return []error{e.Err}, true
	case Many:
		return e, true
	case api.Errno:
		return nil, true
	}
	return nil, false
}

// firstBelow an error; nil, where nothing lies below it.
func firstBelow(err error) error {
	l, _ := below(err)
	if len(l) == 0 {
		return nil
	}
	return l[0]
}

// part of an error, and what stands ahead of it in the text of the whole.
type part struct {
	ahead string
	err   error
}

// all: an error itself and what lies below it, in order, each with what stands ahead of it. The parts to come wait in a list, since errors may be wrapped deeper than calls can go; and they are told one by one, since a caller may need only the first.
func all(err error) iter.Seq2[string, error] {
	return func(yield func(string, error) bool) {
		wait := []part{{err: err}}
		for len(wait) > 0 {
			p := wait[len(wait)-1]
			wait = pushBelow(wait[:len(wait)-1], p.err)
			if !yield(p.ahead, p.err) {
				return
			}
		}
	}
}

// pushBelow puts what lies right below an error at the end of those that wait, the first one last, for that one is taken next.
func pushBelow(wait []part, err error) []part {
	l, _ := below(err)
	for i := len(l) - 1; i > 0; i-- {
		wait = append(wait, part{"; ", l[i]})
	}
	if len(l) > 0 {
		wait = append(wait, part{"", l[0]})
	}
	return wait
}

// text of an error that isn't nil. It is written from the outermost on in one go: were the inner ones' texts made first, a long chain would copy them over and over.
func text(err error) string {
	var b strings.Builder
	for ahead, e := range all(err) {
		b.WriteString(ahead)
		b.WriteString(word(e))
	}
	return b.String()
}

// word of an error: its text without what lies below it.
func word(err error) string {
	switch e := err.(type) {
	case *Fault:
		if e == nil {
			return "?"
		}
		return e.Op + " " + strconv.Itoa(e.At) + ": "
	case Many:
		return ""
	case api.Errno:
		return e.Error()
	}
	return "?"
}

// number of an error with nothing below it. Further up errors.As isn't asked: it would go down by itself, and into errors of other kinds, too, below which nothing counts.
func number(err error) (api.Errno, bool) {
	l, known := below(err)
	if !known || len(l) > 0 {
		return 0, false
	}
	var n api.Errno
	ok := errors.As(err, &n)
	return n, ok
}
