package fault_test

import (
	"errors"
	"fmt"
	"math"
	"slices"
	"strings"
	"testing"

	"posthorse/api"
	"posthorse/fault"
)

// nilFault is a *Fault that is nil, as an error that isn't.
var nilFault error = (*fault.Fault)(nil)

// loop is an error of another kind, under which nothing lies; whoever looks below it all the same never ends.
type loop struct{}

func (l loop) Error() string { panic("another kind's Error was called") }
func (l loop) Unwrap() error { return l }

// liar is an error of another kind that says it were a number.
type liar struct{}

func (l liar) Error() string { return "liar" }
func (l liar) As(target any) bool {
	if n, ok := target.(*api.Errno); ok {
		*n = api.ErrSum
		return true
	}
	return false
}

// other kinds of errors: none of them counts as a fault, as many or as a number.
func others() map[string]error {
	n := api.ErrSum
	return map[string]error{
		"new":               errors.New("new"),
		"wraps a number":    fmt.Errorf("wraps: %w", api.ErrSum),
		"wraps a fault":     fmt.Errorf("wraps: %w", fault.Wrap("read", 1, api.ErrSum)),
		"joins":             errors.Join(api.ErrSum, api.ErrNone),
		"pointer to number": &n,
		"pointer to many":   &fault.Many{api.ErrSum},
		"nil pointer":       (*fault.Many)(nil),
		"loop":              loop{},
		"liar":              liar{},
	}
}

// P2.1: Wrap and the text of a Fault.
func TestWrap(t *testing.T) {
	for _, c := range []struct {
		op   string
		at   int
		err  error
		want string
	}{
		{"read", 5, api.ErrSum, "read 5: sum"},
		{"read", 0, api.ErrForm, "read 0: form"},
		{"read", -17, api.ErrForm, "read -17: form"},
		{"read", math.MaxInt, api.ErrForm, "read 9223372036854775807: form"},
		{"read", math.MinInt, api.ErrForm, "read -9223372036854775808: form"},
		{"", 1, api.ErrNone, " 1: none"},
		{"a b\x00\xff", 1, api.ErrNone, "a b\x00\xff 1: none"},
		{"mount", 0, fault.Wrap("read", 5, api.ErrSum), "mount 0: read 5: sum"},
		{"mount", 0, fault.Many{api.ErrSum, fault.Wrap("read", 5, api.ErrNone)}, "mount 0: sum; read 5: none"},
		{"mount", 0, fault.Many{}, "mount 0: "},
		{"read", 1, api.Errno(0), "read 1: unknown"},
		{"read", 1, api.Errno(-4), "read 1: unknown"},
		{"read", 1, api.Errno(20), "read 1: unknown"},
		{"read", 1, nilFault, "read 1: ?"},
	} {
		e := fault.Wrap(c.op, c.at, c.err)
		f, ok := e.(*fault.Fault)
		if !ok || f.Op != c.op || f.At != c.at {
			t.Fatalf("%v", e)
		}
		if e.Error() != c.want || fault.Text(e) != c.want {
			t.Errorf("%q and %q, want %q", e.Error(), fault.Text(e), c.want)
		}
	}
	if e := fault.Wrap("read", 5, nil); e != nil {
		t.Error(e)
	}
	f := &fault.Fault{Op: "read", At: 2}
	if f.Error() != "read 2: ?" || f.Unwrap() != nil {
		t.Error(f.Error(), f.Unwrap())
	}
}

// P2.1: Unwrap gives what was wrapped.
func TestFaultUnwrap(t *testing.T) {
	in := fault.Wrap("read", 5, api.ErrSum)
	if got := errors.Unwrap(fault.Wrap("mount", 0, in)); got != in {
		t.Error(got)
	}
	if got := errors.Unwrap(in); got != api.ErrSum {
		t.Error(got)
	}
	if got := errors.Unwrap(fault.Wrap("read", 5, nilFault)); got != nilFault {
		t.Error(got)
	}
}

// P2.1: other kinds of errors have the text `?`, and their Error isn't called.
func TestTextOfOthers(t *testing.T) {
	for name, err := range others() {
		if s := fault.Text(err); s != "?" {
			t.Errorf("%s: %q", name, s)
		}
		if s := fault.Wrap("read", 5, err).Error(); s != "read 5: ?" {
			t.Errorf("%s: %q", name, s)
		}
		if s := fault.Join(api.ErrSum, err, api.ErrNone).Error(); s != "sum; ?; none" {
			t.Errorf("%s: %q", name, s)
		}
	}
}

// P2.1: Is.
func TestIs(t *testing.T) {
	f := &fault.Fault{Op: "read", At: 5, Err: api.ErrSum}
	for _, c := range []struct {
		name   string
		target error
		want   bool
	}{
		{"op and place", &fault.Fault{Op: "read", At: 5}, true},
		{"op", &fault.Fault{Op: "read", At: -1}, true},
		{"place", &fault.Fault{At: 5}, true},
		{"any", &fault.Fault{At: -1}, true},
		{"another op", &fault.Fault{Op: "write", At: 5}, false},
		{"another op, any place", &fault.Fault{Op: "write", At: -1}, false},
		{"another place", &fault.Fault{Op: "read", At: 4}, false},
		{"another place, any op", &fault.Fault{At: 4}, false},
		{"place 0 isn't any", &fault.Fault{Op: "read"}, false},
		{"place -2 isn't any", &fault.Fault{Op: "read", At: -2}, false},
		{"with an error", &fault.Fault{Op: "read", At: 5, Err: api.ErrSum}, false},
		{"with a nil fault", &fault.Fault{Op: "read", At: 5, Err: nilFault}, false},
		{"nil", nil, false},
		{"nil fault", nilFault, false},
		{"number", api.ErrSum, false},
		{"many", fault.Many{&fault.Fault{Op: "read", At: 5}}, false},
		{"wrapped by another kind", fmt.Errorf("%w", &fault.Fault{Op: "read", At: 5}), false},
	} {
		if got := f.Is(c.target); got != c.want {
			t.Errorf("%s: %v", c.name, got)
		}
	}
	g := &fault.Fault{Op: "read", At: -1, Err: api.ErrSum}
	if !g.Is(&fault.Fault{At: -1}) || g.Is(&fault.Fault{At: 5}) {
		t.Error("a fault at -1")
	}
}

// P2.1: errors.Is tells through what, and of what, an error came.
func TestErrorsIs(t *testing.T) {
	e := fault.Wrap("mount", 0, fault.Join(api.ErrNone, fault.Wrap("read", 5, api.ErrSum)))
	for _, target := range []error{
		api.ErrSum, api.ErrNone, e,
		&fault.Fault{Op: "read", At: -1}, &fault.Fault{Op: "mount", At: 0}, &fault.Fault{At: 5},
	} {
		if !errors.Is(e, target) {
			t.Errorf("is not %v", target)
		}
	}
	for _, target := range []error{
		api.ErrForm, &fault.Fault{Op: "read", At: 0}, &fault.Fault{Op: "write", At: -1}, nilFault, nil,
	} {
		if errors.Is(e, target) {
			t.Errorf("is %v", target)
		}
	}
}

// P2.2: Join.
func TestJoin(t *testing.T) {
	if fault.Join() != nil || fault.Join(nil) != nil || fault.Join(nil, nil, nil) != nil {
		t.Error("none of them is an error")
	}
	one := fault.Wrap("read", 5, api.ErrSum)
	if fault.Join(one) != one || fault.Join(nil, one, nil) != one || fault.Join(nil, nilFault) != nilFault {
		t.Error("one of them is an error")
	}
	l := []error{nil, one, nil, api.ErrNone, one, nil}
	m, ok := fault.Join(l...).(fault.Many)
	if !ok || !slices.Equal(m, []error{one, api.ErrNone, one}) {
		t.Fatal(m)
	}
	if m.Error() != "read 5: sum; none; read 5: sum" || fault.Text(m) != m.Error() {
		t.Error(m.Error())
	}
	l[1], l[3] = api.ErrBusy, api.ErrBusy
	if m[0] != one || m[1] != api.ErrNone {
		t.Error("what is handed in is kept")
	}
	inner := fault.Join(api.ErrArg, api.ErrForm)
	outer := fault.Join(api.ErrSum, inner)
	if o, ok := outer.(fault.Many); !ok || len(o) != 2 || outer.Error() != "sum; argument; form" {
		t.Error(outer)
	}
	if o := fault.Join(nil, fault.Many{}); o == nil || o.Error() != "" {
		t.Error("many of none is an error still")
	}
}

// P2.2: what is handed in isn't changed, behind its length neither.
func TestJoinLeavesList(t *testing.T) {
	room := []error{nil, api.ErrSum, api.ErrNone, api.ErrBusy, api.ErrStale}
	fault.Join(room[:3]...)
	if !slices.Equal(room, []error{nil, api.ErrSum, api.ErrNone, api.ErrBusy, api.ErrStale}) {
		t.Error(room)
	}
}

// P2.2: Unwrap of Many is new memory.
func TestManyUnwrap(t *testing.T) {
	m := fault.Many{api.ErrSum, api.ErrNone}
	l := m.Unwrap()
	if !slices.Equal(l, []error{api.ErrSum, api.ErrNone}) {
		t.Fatal(l)
	}
	l[0] = api.ErrBusy
	if m[0] != api.ErrSum {
		t.Error("Unwrap shares its memory")
	}
	var none fault.Many
	if none.Error() != "" || len(none.Unwrap()) != 0 {
		t.Error("many of none")
	}
	with := fault.Many{nil, api.ErrSum, nil}
	if with.Error() != "?; sum; ?" || len(with.Unwrap()) != 3 {
		t.Error(with.Error())
	}
}

// P2.3: Text.
func TestText(t *testing.T) {
	if s := fault.Text(nil); s != "" {
		t.Errorf("%q", s)
	}
	if s := fault.Text(api.ErrExtents); s != "extents" {
		t.Errorf("%q", s)
	}
	if s := fault.Text(api.Errno(99)); s != "unknown" {
		t.Errorf("%q", s)
	}
	e := fault.Join(fault.Wrap("a", 1, fault.Join(api.ErrArg, fault.Wrap("b", 2, api.ErrSum))), errors.New("x"), fault.Wrap("c", 3, api.ErrForm))
	if s := fault.Text(e); s != "a 1: argument; b 2: sum; ?; c 3: form" {
		t.Errorf("%q", s)
	}
}

// P2.3: Number.
func TestNumber(t *testing.T) {
	for _, c := range []struct {
		name string
		err  error
		want api.Errno
	}{
		{"nil", nil, 0},
		{"itself", api.ErrQueue, api.ErrQueue},
		{"number 0", api.Errno(0), 0},
		{"number below", api.Errno(-3), -3},
		{"below a fault", fault.Wrap("a", 1, fault.Wrap("b", 2, api.ErrSum)), api.ErrSum},
		{"first of many", fault.Join(api.ErrNone, api.ErrSum), api.ErrNone},
		{"first of many, deep", fault.Join(fault.Wrap("a", 1, fault.Join(api.ErrForm, api.ErrArg)), api.ErrSum), api.ErrForm},
		{"others ahead", fault.Join(errors.New("x"), fault.Wrap("a", 1, errors.New("y")), fault.Wrap("b", 2, api.ErrSum), api.ErrNone), api.ErrSum},
		{"nil ahead", fault.Many{nil, nilFault, fault.Many{}, &fault.Fault{}, api.ErrSum}, api.ErrSum},
		{"number 0 ahead", fault.Many{api.Errno(0), api.ErrSum}, 0},
		{"fault with nothing", &fault.Fault{Op: "a"}, api.ErrCorrupt},
		{"many of none", fault.Many{}, api.ErrCorrupt},
		{"many of nil", fault.Many{nil}, api.ErrCorrupt},
		{"nil fault", nilFault, api.ErrCorrupt},
	} {
		if n := fault.Number(c.err); n != c.want {
			t.Errorf("%s: %d, want %d", c.name, n, c.want)
		}
	}
}

// P2.3: below an error of another kind lies nothing.
func TestNothingBelowOthers(t *testing.T) {
	for name, err := range others() {
		if n := fault.Number(err); n != api.ErrCorrupt {
			t.Errorf("%s: %d", name, n)
		}
		if n := fault.Number(fault.Join(fault.Wrap("a", 1, err), err, api.ErrBusy)); n != api.ErrBusy {
			t.Errorf("%s, ahead of a number: %d", name, n)
		}
		if l := fault.Ops(err); len(l) != 0 {
			t.Errorf("%s: %q", name, l)
		}
		if l := fault.Ops(fault.Wrap("a", 1, err)); !slices.Equal(l, []string{"a"}) {
			t.Errorf("%s: %q", name, l)
		}
		if f, ok := fault.Find(err); ok || f != (fault.Fault{}) {
			t.Errorf("%s: %v", name, f)
		}
		if f, ok := fault.Find(fault.Wrap("a", 1, err)); !ok || f.Op != "a" {
			t.Errorf("%s: %v", name, f)
		}
	}
}

// P2.3: Ops.
func TestOps(t *testing.T) {
	for _, c := range []struct {
		name string
		err  error
		want []string
	}{
		{"nil", nil, nil},
		{"number", api.ErrSum, nil},
		{"one below the other", fault.Wrap("a", 1, fault.Wrap("b", 2, fault.Wrap("a", 3, api.ErrSum))), []string{"a", "b", "a"}},
		{"many", fault.Join(fault.Wrap("a", 1, fault.Join(fault.Wrap("b", 2, api.ErrSum), fault.Wrap("c", 3, api.ErrSum))), api.ErrNone, fault.Wrap("d", 4, api.ErrSum)), []string{"a", "b", "c", "d"}},
		{"empty op", fault.Wrap("", 1, fault.Wrap("b", 2, api.ErrSum)), []string{"", "b"}},
		{"nil fault", nilFault, []string{""}},
		{"nil fault below", fault.Wrap("a", 1, nilFault), []string{"a", ""}},
		{"many of nil", fault.Many{nil, fault.Wrap("a", 1, api.ErrSum)}, []string{"a"}},
	} {
		if l := fault.Ops(c.err); !slices.Equal(l, c.want) {
			t.Errorf("%s: %q, want %q", c.name, l, c.want)
		}
	}
}

// P2.3: Find.
func TestFind(t *testing.T) {
	for _, c := range []struct {
		name string
		err  error
		want fault.Fault
		ok   bool
	}{
		{"nil", nil, fault.Fault{}, false},
		{"number", api.ErrSum, fault.Fault{}, false},
		{"one", fault.Wrap("a", 1, api.ErrSum), fault.Fault{Op: "a", At: 1, Err: api.ErrSum}, true},
		{"innermost", fault.Wrap("a", 1, fault.Wrap("b", 2, api.ErrSum)), fault.Fault{Op: "b", At: 2, Err: api.ErrSum}, true},
		{"first of many", fault.Join(fault.Wrap("a", 1, api.ErrSum), fault.Wrap("b", 2, api.ErrNone)), fault.Fault{Op: "a", At: 1, Err: api.ErrSum}, true},
		{"not the second of many", fault.Join(api.ErrSum, fault.Wrap("b", 2, api.ErrNone)), fault.Fault{}, false},
		{"below many", fault.Wrap("a", 1, fault.Join(fault.Wrap("b", 2, api.ErrNone), fault.Wrap("c", 3, api.ErrSum))), fault.Fault{Op: "b", At: 2, Err: api.ErrNone}, true},
		{"without its error", &fault.Fault{Op: "a", At: 1}, fault.Fault{Op: "a", At: 1}, true},
		{"nil fault", nilFault, fault.Fault{}, true},
		{"nil fault below", fault.Wrap("a", 1, nilFault), fault.Fault{}, true},
		{"many of none", fault.Many{}, fault.Fault{}, false},
	} {
		if f, ok := fault.Find(c.err); f != c.want || ok != c.ok {
			t.Errorf("%s: %v %v, want %v %v", c.name, f, ok, c.want, c.ok)
		}
	}
	above := fault.Wrap("a", 1, fault.Join(api.ErrSum, fault.Wrap("b", 2, api.ErrNone)))
	if f, ok := fault.Find(above); !ok || f.Op != "a" {
		t.Error("the last fault stands above many", f, ok)
	}
}

// P2.3: a nil *Fault, and P1: its methods don't panic.
func TestNilFault(t *testing.T) {
	var f *fault.Fault
	if f.Error() != "?" || f.Unwrap() != nil || f.Is(&fault.Fault{At: -1}) || f.Is(nil) || f.Is(f) {
		t.Error("a nil fault is one with something")
	}
	if s := fault.Text(nilFault); s != "?" {
		t.Errorf("%q", s)
	}
	if errors.Is(nilFault, &fault.Fault{At: -1}) || errors.Is(nilFault, api.ErrSum) {
		t.Error("is")
	}
}

// P1: calls end, and soon, of errors that are wrapped deep, and of one that stands below another twice, over and over.
func TestDeep(t *testing.T) {
	const deep = 1 << 18
	var chain, nest error = api.ErrSum, api.ErrSum
	for i := range deep {
		chain = fault.Wrap("r", i%10, chain)
		nest = fault.Join(nest, fault.Wrap("n", 1, api.ErrNone))
	}
	if s := fault.Text(chain); len(s) != 5*deep+3 || !strings.HasSuffix(s, "r 1: r 0: sum") {
		t.Error("text of a chain")
	}
	if s := nest.Error(); len(s) != 3+11*deep || !strings.HasPrefix(s, "sum; n 1: none; n 1: none") {
		t.Error("text of a nest")
	}
	if fault.Number(chain) != api.ErrSum || fault.Number(nest) != api.ErrSum {
		t.Error("number")
	}
	if len(fault.Ops(chain)) != deep || len(fault.Ops(nest)) != deep {
		t.Error("ops")
	}
	if f, ok := fault.Find(chain); !ok || f.At != 0 {
		t.Error(f.At, ok)
	}
	if _, ok := fault.Find(nest); ok {
		t.Error("a number is a fault")
	}
	twice := fault.Wrap("r", 1, api.ErrSum)
	for range 60 {
		twice = fault.Join(twice, twice)
	}
	if fault.Number(twice) != api.ErrSum {
		t.Error("number of a doubled one")
	}
	if f, ok := fault.Find(twice); !ok || f.Op != "r" {
		t.Error(f, ok)
	}
}
