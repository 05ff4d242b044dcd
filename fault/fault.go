// Package fault is layer 2: see shared/doc/02-fault.md.
package fault

import (
	"slices"

	"posthorse/api"
)

// Fault is an error that came of another one: in which operation, at which place.
type Fault struct {
	Op  string
	At  int
	Err error
}

// Error of a fault, as a text.
func (f *Fault) Error() string { return text(f) }

// Unwrap: what it came of.
func (f *Fault) Unwrap() error {
	if f == nil {
		return nil
	}
	return f.Err
}

// Is it one of a kind of faults?
func (f *Fault) Is(target error) bool {
	t, ok := asFault(target)
	if f == nil || !ok || t == nil || t.Err != nil {
		return false
	}
	return (t.Op == "" || t.Op == f.Op) && (t.At == -1 || t.At == f.At)
}

// Many errors at once.
type Many []error

// Error of many, as a text.
func (m Many) Error() string { return text(m) }

// Unwrap: all of them.
func (m Many) Unwrap() []error { return slices.Clone(m) }

// Text of an error.
func Text(err error) string {
	if err == nil {
		return ""
	}
	return text(err)
}

// Wrap an error.
func Wrap(op string, at int, err error) error {
	if err == nil {
		return nil
	}
	return &Fault{Op: op, At: at, Err: err}
}

// Join errors: those that there are.
func Join(l ...error) error {
	var m Many
	for _, err := range l {
		if err != nil {
			m = append(m, err)
		}
	}
	switch len(m) {
	case 0:
		return nil
	case 1:
		return m[0]
	}
	return m
}

// Number of an error.
func Number(err error) api.Errno {
	if err == nil {
		return 0
	}
	for _, e := range all(err) {
		if n, ok := number(e); ok {
			return n
		}
	}
	return api.ErrCorrupt
}

// Ops: the operations that an error came through.
func Ops(err error) []string {
	var ops []string
	for _, e := range all(err) {
		if f, ok := asFault(e); ok {
			ops = append(ops, f.value().Op)
		}
	}
	return ops
}

// Find the innermost fault.
func Find(err error) (Fault, bool) {
	var last Fault
	found := false
	for err != nil {
		if f, ok := asFault(err); ok {
			last, found = f.value(), true
		}
		err = firstBelow(err)
	}
	return last, found
}
