package hold_test

import (
	"fmt"
	"math"
	"math/rand"
	"slices"
	"testing"

	"posthorse/hold"
)

// is: are things these?
func is[T comparable](t *testing.T, what string, got []T, want ...T) {
	t.Helper()
	if !slices.Equal(got, want) {
		t.Errorf("%s: %v, want %v", what, got, want)
	}
}

// P15.1: of the zero value.
func TestZero(t *testing.T) {
	var h hold.Holds[int]
	is(t, "held", h.Held())
	if h.Has(0) || h.Inside() != 0 {
		t.Error("it holds something")
	}
	for _, ticket := range []int{math.MinInt, -1, 0, 1, math.MaxInt} {
		is(t, "leave", h.Leave(ticket))
	}
	is(t, "drop nothing", h.Drop())
	is(t, "drop", h.Drop(3, 1, 3), 3, 1, 3)
	is(t, "held", h.Held())
	if n := h.Enter(); n != 1 {
		t.Error(n)
	}
}

// P15.1: of a nil pointer.
func TestNil(t *testing.T) {
	var h *hold.Holds[string]
	if h.Enter() != 0 || h.Inside() != 0 || h.Has("") || h.Has("a") {
		t.Error("nil holds something")
	}
	is(t, "leave", h.Leave(1))
	is(t, "drop", h.Drop("a"))
	is(t, "held", h.Held())
}

// P15.1: the document's example.
func TestExample(t *testing.T) {
	var h hold.Holds[string]
	a := h.Enter()
	is(t, "drop x", h.Drop("x"))
	b := h.Enter()
	is(t, "drop y", h.Drop("y"))
	is(t, "held", h.Held(), "x", "y")
	is(t, "a leaves", h.Leave(a), "x")
	is(t, "held", h.Held(), "y")
	if h.Has("x") || !h.Has("y") {
		t.Error("has")
	}
	is(t, "b leaves", h.Leave(b), "y")
	is(t, "held", h.Held())
}

// P15.1: tickets rise by one, and none is given again; who has left can't leave once more.
func TestTickets(t *testing.T) {
	var h hold.Holds[int]
	for i := range 5 {
		if n := h.Enter(); n != i+1 || h.Inside() != i+1 {
			t.Error(n, h.Inside())
		}
	}
	for _, ticket := range []int{5, 1, 5, 1, 0, -3, 6, math.MinInt, math.MaxInt, 3} {
		h.Leave(ticket)
	}
	if h.Inside() != 2 {
		t.Error(h.Inside())
	}
	if n := h.Enter(); n != 6 {
		t.Error(n)
	}
	for _, ticket := range []int{2, 4, 6} {
		h.Leave(ticket)
	}
	if n := h.Enter(); n != 7 || h.Inside() != 1 {
		t.Error(n, h.Inside())
	}
}

// P15.1: whoever comes behind a drop doesn't count for it, and a ticket that nobody has lets nothing go.
func TestLater(t *testing.T) {
	var h hold.Holds[int]
	a, b := h.Enter(), h.Enter()
	h.Drop(7)
	c := h.Enter()
	for _, ticket := range []int{0, 4, -1, math.MaxInt} {
		is(t, "nobody leaves", h.Leave(ticket))
	}
	is(t, "a leaves", h.Leave(a))
	is(t, "c leaves", h.Leave(c))
	d := h.Enter()
	is(t, "b leaves", h.Leave(b), 7)
	is(t, "b leaves again", h.Leave(b))
	is(t, "d leaves", h.Leave(d))
}

// P15.1: what is dropped more than once counts each time, in the order of the drops.
func TestTwice(t *testing.T) {
	var h hold.Holds[string]
	a := h.Enter()
	h.Drop("x", "y", "x")
	b := h.Enter()
	h.Drop("x", "a")
	is(t, "held", h.Held(), "x", "y", "x", "x", "a")
	is(t, "a leaves", h.Leave(a), "x", "y", "x")
	if !h.Has("x") || h.Has("y") {
		t.Error("has")
	}
	is(t, "held", h.Held(), "x", "a")
	is(t, "b leaves", h.Leave(b), "x", "a")
	if h.Has("x") {
		t.Error("has")
	}
}

// P15.1: one who leaves last lets several drops go at once.
func TestSeveralAtOnce(t *testing.T) {
	var h hold.Holds[int]
	a := h.Enter()
	h.Drop(5)
	b := h.Enter()
	h.Drop(4, 3)
	c := h.Enter()
	h.Drop(2)
	is(t, "b leaves", h.Leave(b))
	is(t, "c leaves", h.Leave(c))
	is(t, "held", h.Held(), 5, 4, 3, 2)
	is(t, "a leaves", h.Leave(a), 5, 4, 3, 2)
	is(t, "drop", h.Drop(1), 1)
}

// P15.1: what is handed in, and what is handed out, has memory of its own.
func TestMemory(t *testing.T) {
	var h hold.Holds[int]
	l := []int{1, 2, 3}
	free := h.Drop(l...)
	l[0] = 9
	is(t, "free at once", free, 1, 2, 3)
	free[1] = 8
	is(t, "handed in", l, 9, 2, 3)
	a := h.Enter()
	h.Drop(l[:2]...)
	l[0] = 7
	h.Held()[0] = 6
	is(t, "held", h.Held(), 9, 2)
	h.Drop(5)
	is(t, "handed in", l, 7, 2, 3)
	free = h.Leave(a)
	b := h.Enter()
	h.Drop(4, 4, 4)
	is(t, "free", free, 9, 2, 5)
	h.Leave(b)
}

// P15.1: things of other kinds; what can't be compared is the same as nothing.
func TestKinds(t *testing.T) {
	type pair struct {
		a int
		b any
	}
	var h hold.Holds[pair]
	a := h.Enter()
	h.Drop(pair{1, "x"}, pair{2, []int{3}}, pair{3, nil})
	for _, c := range []struct {
		x    pair
		want bool
	}{
		{pair{1, "x"}, true}, {pair{1, "y"}, false}, {pair{2, []int{3}}, false}, {pair{2, nil}, false}, {pair{3, nil}, true}, {pair{4, []int{}}, false},
	} {
		if h.Has(c.x) != c.want {
			t.Error(c.x, !c.want)
		}
	}
	if l := h.Leave(a); len(l) != 3 || l[0] != (pair{1, "x"}) {
		t.Error(l)
	}
}

// twin of Holds by the document's words: each thing has the list of those who were inside when it was dropped.
type twin struct {
	last   int
	inside []int
	held   []waiting
}

type waiting struct {
	thing int
	since []int
}

func (w *twin) enter() int {
	w.last++
	w.inside = append(w.inside, w.last)
	return w.last
}

func (w *twin) leave(ticket int) []int {
	isHe := func(n int) bool { return n == ticket }
	w.inside = slices.DeleteFunc(w.inside, isHe)
	var free []int
	var held []waiting
	for _, x := range w.held {
		x.since = slices.DeleteFunc(x.since, isHe)
		if len(x.since) == 0 {
			free = append(free, x.thing)
		} else {
			held = append(held, x)
		}
	}
	w.held = held
	return free
}

func (w *twin) drop(l ...int) []int {
	if len(w.inside) == 0 {
		return l
	}
	for _, x := range l {
		w.held = append(w.held, waiting{thing: x, since: slices.Clone(w.inside)})
	}
	return nil
}

func (w *twin) things() []int {
	var l []int
	for _, x := range w.held {
		l = append(l, x.thing)
	}
	return l
}

// P15.1: whatever is done by chance, it is as by the document's words.
func TestModel(t *testing.T) {
	for seed := range int64(200) {
		r := rand.New(rand.NewSource(seed))
		most := 1 + r.Intn(9)
		var h hold.Holds[int]
		var w twin
		for n := range 300 {
			var got, want []int
			switch r.Intn(5) {
			case 0, 1:
				if len(w.inside) < most {
					got, want = []int{h.Enter()}, []int{w.enter()}
				}
			case 2:
				l := make([]int, r.Intn(4))
				for i := range l {
					l[i] = r.Intn(12)
				}
				got, want = h.Drop(l...), w.drop(l...)
			case 3:
				if len(w.inside) > 0 {
					ticket := w.inside[r.Intn(len(w.inside))]
					got, want = h.Leave(ticket), w.leave(ticket)
				}
			case 4:
				ticket := r.Intn(w.last + 2)
				got, want = h.Leave(ticket), w.leave(ticket)
			}
			has := func(x int) bool { return h.Has(x) == slices.Contains(w.things(), x) }
			if !slices.Equal(got, want) || !slices.Equal(h.Held(), w.things()) || h.Inside() != len(w.inside) || !has(n%12) || !has(r.Intn(12)) {
				t.Fatal(seed, n, fmt.Sprint(got, want, h.Held(), w.things(), h.Inside()))
			}
		}
	}
}
