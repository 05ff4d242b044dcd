package meta_test

import (
	"math"
	"math/rand"
	"slices"
	"testing"

	"posthorse/api"
	"posthorse/look"
	"posthorse/meta"
)

// numbers from one on, below another one.
func numbers(from, to int) []int {
	var l []int
	for n := from; n < to; n++ {
		l = append(l, n)
	}
	return l
}

func same(a, b meta.Meta) bool {
	return a.Batch == b.Batch && a.Tree == b.Tree && a.Keys == b.Keys && slices.Equal(a.Used, b.Used)
}

// of: a meta of these.
func of(batch, root, height, keys int, used ...int) meta.Meta {
	return meta.Meta{Batch: batch, Tree: look.Tree{Root: root, Height: height}, Keys: keys, Used: used}
}

// rightMetas: all that may be, at its edges.
func rightMetas() []meta.Meta {
	return []meta.Meta{
		{},
		{Used: []int{}},
		of(1<<48-1, 0, 0, 0),
		of(0, 1, 1, 1, 1),
		of(5, 1023, 6, 65535, 1023),
		of(258, 513, 2, 770, 1, 7, 8, 9, 512, 513, 1016, 1022, 1023),
		of(7, 512, 3, 300, numbers(1, 1024)...),
		of(7, 2, 1, 65535, 2),
	}
}

// wrongMetas: each has one thing that may not be.
func wrongMetas() []meta.Meta {
	return []meta.Meta{
		of(-1, 1, 1, 1, 1),
		of(1<<48, 1, 1, 1, 1),
		of(math.MinInt, 0, 0, 0),
		of(math.MaxInt, 0, 0, 0),
		of(0, 1, -1, 1, 1),
		of(0, 1, 7, 1, 1),
		of(0, 1, math.MaxInt, 1, 1),
		of(0, 1, math.MinInt, 1, 1),
		of(0, 0, -1, 0),
		of(0, 0, 1, 1, 1), // no root
		of(0, 0, 1, 1),
		of(0, 0, 1, 1, 0, 1),
		of(0, 1, 0, 0),
		of(0, 1, 0, 0, 1),
		of(0, 2, 1, 1, 1, 3), // a root that isn't used
		of(0, -1, 1, 1, 1),
		of(0, 1024, 1, 1, 1),
		of(0, 1, 1, 0, 1), // no keys
		of(0, 1, 1, -1, 1),
		of(0, 1, 1, 65536, 1),
		of(0, 1, 1, math.MinInt, 1),
		of(0, 1, 1, math.MaxInt, 1),
		of(0, 0, 0, 1),
		of(0, 0, 0, 0, 1), // pages of no tree
		of(0, 1, 1, 1),
		of(0, 1, 1, 1, 0, 1),
		of(0, 1, 1, 1, -1, 1),
		of(0, 1, 1, 1, 1, 1024),
		of(0, 1024, 1, 1, 1, 1024),
		of(0, 1, 1, 1, 1, math.MaxInt),
		of(0, 1, 1, 1, math.MinInt, 1),
		of(0, 1, 1, 1, 1, 1),
		of(0, 1, 1, 1, 2, 1),
		of(0, 1, 1, 1, 1, 3, 2),
		of(0, 1, 1, 1, append(numbers(1, 1024), 1023)...),
	}
}

// P14.1: Right.
func TestRight(t *testing.T) {
	for _, m := range rightMetas() {
		if !meta.Right(m) {
			t.Errorf("%+v isn't right", m)
		}
	}
	for _, m := range wrongMetas() {
		if meta.Right(m) {
			t.Errorf("%+v is right", m)
		}
	}
	for height := 1; height <= 6; height++ {
		if !meta.Right(of(0, 3, height, 1, 2, 3, 4)) {
			t.Error(height)
		}
	}
}

// P14.2: the document's example, and how it goes on.
func TestNext(t *testing.T) {
	for _, c := range []struct {
		m              meta.Meta
		t              look.Tree
		keys           int
		fresh, dropped []int
		want           meta.Meta
	}{
		{meta.Meta{}, look.Tree{Root: 1, Height: 1}, 1, []int{1}, nil, of(1, 1, 1, 1, 1)},
		{meta.Meta{}, look.Tree{}, 0, nil, nil, of(1, 0, 0, 0)},
		{of(1, 1, 1, 1, 1), look.Tree{Root: 2, Height: 1}, 2, []int{2}, []int{1}, of(2, 2, 1, 2, 2)},
		{of(1, 1, 1, 1, 1), look.Tree{Root: 1, Height: 1}, 1, nil, nil, of(2, 1, 1, 1, 1)},
		{of(1, 1, 1, 1, 1), look.Tree{}, 0, nil, []int{1}, of(2, 0, 0, 0)},
		{of(8, 5, 2, 9, 3, 5, 7), look.Tree{Root: 1, Height: 2}, 12, []int{9, 1, 6}, []int{7, 5}, of(9, 1, 2, 12, 1, 3, 6, 9)},
		{of(8, 5, 2, 9, 3, 5, 7), look.Tree{Root: 3, Height: 1}, 5, nil, []int{7, 5}, of(9, 3, 1, 5, 3)},
		{of(1<<48-2, 1, 1, 1, 1), look.Tree{Root: 1023, Height: 6}, 65535, []int{1023}, []int{1}, of(1<<48-1, 1023, 6, 65535, 1023)},
		{meta.Meta{}, look.Tree{Root: 512, Height: 3}, 5000, numbers(1, 1024), nil, of(1, 512, 3, 5000, numbers(1, 1024)...)},
		{of(3, 512, 3, 5000, numbers(1, 1024)...), look.Tree{}, 0, nil, numbers(1, 1024), of(4, 0, 0, 0)},
	} {
		got, err := meta.Next(c.m, c.t, c.keys, c.fresh, c.dropped)
		if err != nil || !same(got, c.want) || !meta.Right(got) {
			t.Errorf("Next(%+v, %v, %d, %v, %v) = %+v, %v", c.m, c.t, c.keys, c.fresh, c.dropped, got, err)
		}
	}
}

// P14.2: what Next refuses.
func TestNextWrong(t *testing.T) {
	m := of(8, 5, 2, 9, 3, 5, 7)
	tree := look.Tree{Root: 5, Height: 2}
	for _, c := range []struct {
		m              meta.Meta
		t              look.Tree
		keys           int
		fresh, dropped []int
	}{
		{m, tree, 9, []int{3}, nil}, // used already
		{m, tree, 9, []int{4, 7}, nil},
		{m, tree, 9, []int{7}, []int{7}}, // used already, though it is dropped, too
		{m, tree, 9, nil, []int{4}},      // not used
		{m, tree, 9, nil, []int{3, 1}},
		{m, tree, 9, nil, []int{0}},
		{m, tree, 9, nil, []int{math.MaxInt}},
		{m, tree, 9, []int{4}, []int{4}},  // fresh only, so not used
		{m, tree, 9, []int{4, 4}, nil},    // twice
		{m, tree, 9, []int{4, 6, 4}, nil}, // twice, not side by side
		{m, tree, 9, nil, []int{3, 3}},    // twice
		{m, tree, 9, nil, []int{3, 7, 3}}, // twice, not side by side
		{m, tree, 9, []int{0}, nil},       // no page
		{m, tree, 9, []int{-1}, nil},      // no page
		{m, tree, 9, []int{1024}, nil},    // no page
		{m, tree, 9, []int{math.MinInt, math.MaxInt}, nil},
		{m, tree, 9, nil, []int{5}}, // its root is dropped
		{m, look.Tree{Root: 4, Height: 2}, 9, nil, nil},
		{m, look.Tree{Root: 5, Height: 7}, 9, nil, nil},
		{m, look.Tree{Root: 5, Height: -1}, 9, nil, nil},
		{m, look.Tree{Root: 5}, 0, nil, nil},
		{m, look.Tree{Height: 1}, 9, nil, nil},
		{m, look.Tree{}, 0, nil, nil}, // pages are used still
		{m, look.Tree{}, 9, nil, []int{3, 5, 7}},
		{m, tree, 0, nil, nil},
		{m, tree, -1, nil, nil},
		{m, tree, 65536, nil, nil},
		{m, tree, 9, nil, []int{3, 5, 7}},
		{of(1<<48-1, 1, 1, 1, 1), look.Tree{Root: 1, Height: 1}, 1, nil, nil}, // there is no next Batch
		{of(math.MaxInt, 1, 1, 1, 1), look.Tree{Root: 1, Height: 1}, 1, nil, nil},
		{of(math.MinInt, 1, 1, 1, 1), look.Tree{Root: 1, Height: 1}, 1, nil, nil},
		{of(0, 1, 1, 1, 0, 1), look.Tree{Root: 1, Height: 1}, 1, nil, nil},
		{of(0, 1, 1, 1, 1, 1024), look.Tree{Root: 1, Height: 1}, 1, nil, nil},
		{of(0, 1, 1, 1, -7, 1), look.Tree{Root: 1, Height: 1}, 1, nil, nil},
		{meta.Meta{}, look.Tree{}, 1, nil, nil},
		{meta.Meta{}, look.Tree{}, 0, []int{1}, nil},
		{meta.Meta{}, look.Tree{}, 0, nil, []int{1}},
		{meta.Meta{}, look.Tree{Root: 1, Height: 1}, 1, nil, nil},
	} {
		got, err := meta.Next(c.m, c.t, c.keys, c.fresh, c.dropped)
		if err != api.ErrArg || !same(got, meta.Meta{}) {
			t.Errorf("Next(%+v, %v, %d, %v, %v) = %+v, %v", c.m, c.t, c.keys, c.fresh, c.dropped, got, err)
		}
	}
}

// roomy: a list with room behind it, and a look whether it and the room are as they were.
func roomy(l []int) ([]int, func() bool) {
	long := append(slices.Clone(l), 900, 901, 902)
	was := slices.Clone(long)
	return long[:len(l)], func() bool { return slices.Equal(long, was) }
}

// What is handed in stays as it was, and an answer has memory of its own.
func TestAnew(t *testing.T) {
	used, okUsed := roomy([]int{3, 5, 7})
	fresh, okFresh := roomy([]int{9, 1})
	dropped, okDropped := roomy([]int{7, 5})
	m := of(8, 3, 2, 9, used...)
	m.Used = used
	for _, c := range [][2][]int{{nil, nil}, {fresh, nil}, {nil, dropped}, {fresh, dropped}} {
		n, err := meta.Next(m, look.Tree{Root: 3, Height: 2}, 9, c[0], c[1])
		if err != nil {
			t.Fatal(err)
		}
		for i := range n.Used[:cap(n.Used)] {
			n.Used[:cap(n.Used)][i] = -5
		}
		if !okUsed() || !okFresh() || !okDropped() {
			t.Error("changed", used, fresh, dropped)
		}
	}
	l := meta.Unused(m, 10)
	clear(l[:cap(l)])
	if _, err := meta.Put(m); err != nil || !okUsed() {
		t.Error(err)
	}
}

// P14.2: Unused.
func TestUnused(t *testing.T) {
	full := of(0, 1, 1, 1, numbers(1, 1024)...)
	m := of(8, 5, 2, 9, 3, 5, 7)
	for _, c := range []struct {
		m     meta.Meta
		bound int
		want  []int
	}{
		{m, 9, []int{1, 2, 4, 6, 8}},
		{m, 8, []int{1, 2, 4, 6}},
		{m, 7, []int{1, 2, 4, 6}},
		{m, 6, []int{1, 2, 4}},
		{m, 2, []int{1}},
		{m, 1, nil},
		{m, 0, nil},
		{m, -1, nil},
		{m, math.MinInt, nil},
		{meta.Meta{}, 4, []int{1, 2, 3}},
		{meta.Meta{}, 1023, numbers(1, 1023)},
		{meta.Meta{}, 1024, numbers(1, 1024)},
		{meta.Meta{}, 1025, numbers(1, 1024)},
		{meta.Meta{}, math.MaxInt, numbers(1, 1024)},
		{full, 1024, nil},
		{full, math.MaxInt, nil},
		{of(0, 1, 1, 1, numbers(1, 1023)...), 2000, []int{1023}},
		{of(0, 1, 1, 1, numbers(2, 1024)...), 2000, []int{1}},
		// Made by hand, and not right: the numbers that no page has are none.
		{of(0, 1, 1, 1, math.MaxInt, 2, -1, 0, 1024, math.MinInt, 2), 5, []int{1, 3, 4}},
	} {
		if got := meta.Unused(c.m, c.bound); !slices.Equal(got, c.want) {
			t.Errorf("Unused(%+v, %d) = %v", c.m, c.bound, got)
		}
	}
}

// P14.2: many batches one behind the other, against a set.
func TestAsSet(t *testing.T) {
	r := rand.New(rand.NewSource(4))
	m := meta.Meta{}
	used := map[int]bool{}
	for batch := range 500 {
		var fresh, dropped []int
		for _, n := range r.Perm(1023)[:r.Intn(40)] {
			if used[n+1] {
				dropped = append(dropped, n+1)
			} else {
				fresh = append(fresh, n+1)
			}
		}
		for _, n := range fresh {
			used[n] = true
		}
		for _, n := range dropped {
			delete(used, n)
		}
		var want []int
		for n := range 1024 {
			if used[n] {
				want = append(want, n)
			}
		}
		tree, keys := look.Tree{}, 0
		if len(want) > 0 {
			tree, keys = look.Tree{Root: want[r.Intn(len(want))], Height: 1 + r.Intn(6)}, 1+r.Intn(65535)
		}
		next, err := meta.Next(m, tree, keys, fresh, dropped)
		if err != nil || !same(next, meta.Meta{Batch: batch + 1, Tree: tree, Keys: keys, Used: want}) {
			t.Fatal(batch, next, err)
		}
		bound := r.Intn(1100)
		free := meta.Unused(next, bound)
		for n := range 1100 {
			if slices.Contains(free, n) != (n > 0 && n < bound && n < 1024 && !used[n]) {
				t.Fatal(batch, n, free)
			}
		}
		if !slices.IsSorted(free) {
			t.Fatal(free)
		}
		s, err := meta.Put(next)
		if err != nil {
			t.Fatal(err)
		}
		if m, err = meta.Get(s); err != nil || !same(m, next) {
			t.Fatal(batch, m, err)
		}
	}
}
