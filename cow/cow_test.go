package cow_test

import (
	"errors"
	"math"
	"slices"
	"strings"
	"testing"

	"posthorse/api"
	"posthorse/cow"
	"posthorse/look"
	"posthorse/page"
)

// isNothing: a change that is none.
func isNothing(t *testing.T, c *cow.Change) {
	t.Helper()
	if p, err := c.Page(1); !same(p, page.Page{}) || err != api.ErrArg {
		t.Error(p, err)
	}
	if tree := c.Tree(); tree != (look.Tree{}) {
		t.Error(tree)
	}
	for _, k := range []string{"", "a", strings.Repeat("a", 17)} {
		if there, err := c.Put(k, "1"); there || err != api.ErrArg {
			t.Error(there, err)
		}
		if there, err := c.Delete(k); there || err != api.ErrArg {
			t.Error(there, err)
		}
	}
	if l := c.Fresh(); len(l) != 0 {
		t.Error(l)
	}
	if l := c.Dropped(); len(l) != 0 {
		t.Error(l)
	}
}

// P13.1: a nil change; one that was never begun makes no call panic, either.
func TestNil(t *testing.T) {
	if c := cow.Begin(nil, look.Tree{}, []int{1}); c != nil {
		t.Error(c)
	}
	if c := cow.Begin(nil, look.Tree{Root: 3, Height: 9}, nil); c != nil {
		t.Error(c)
	}
	isNothing(t, nil)
	isNothing(t, &cow.Change{})
}

// P13.1: a change that has made nothing.
func TestBegin(t *testing.T) {
	s, tree := low(5, 5)
	c := cow.Begin(s, tree, []int{7, 8})
	if c.Tree() != tree || len(c.Fresh()) != 0 || len(c.Dropped()) != 0 || len(s.asked) != 0 {
		t.Error(c.Tree(), c.Fresh(), c.Dropped(), s.asked)
	}
	// Any tree may be handed in; it is told as it is.
	odd := look.Tree{Root: -3, Height: 77}
	if c := cow.Begin(s, odd, nil); c == nil || c.Tree() != odd {
		t.Error(c)
	}
}

// P13.1: Page tells the fresh one, else the source's, and its error as it is.
func TestPage(t *testing.T) {
	s, tree := low(5, 5)
	c := cow.Begin(s, tree, []int{7, 8})
	for n, p := range s.pages {
		wantPage(t, c, n, p)
	}
	for _, n := range []int{7, 8, 0, -1, math.MaxInt, math.MinInt} {
		if p, err := c.Page(n); !same(p, page.Page{}) || err != api.ErrNone {
			t.Error(n, p, err)
		}
	}
	mine := errors.New("mine")
	s.wrong[2] = mine
	if p, err := c.Page(2); !same(p, page.Page{}) || err != mine {
		t.Error(p, err)
	}
	put(t, c, key(0), "x", true)
	want := leaf(0, 5)
	want.Values[0] = "x"
	wantPage(t, c, 7, want)
	wantPage(t, c, 1, leaf(0, 5)) // dropped, but the source's still
	if _, err := s.Page(7); err != api.ErrNone {
		t.Error("the source has it", err)
	}
}

// P13.1: a fresh page goes before the source's of the same number.
func TestFreshGoesFirst(t *testing.T) {
	s, tree := low(5, 5)
	s.pages[7] = leaf(50, 3)
	s.wrong[8] = api.ErrSum
	c := cow.Begin(s, tree, []int{7, 8})
	put(t, c, key(0), "x", true)
	if p, err := c.Page(7); err != nil || p.Keys[0] != key(0) {
		t.Error(p, err)
	}
	if p, err := c.Page(8); err != nil || p.Level != 1 {
		t.Error(p, err)
	}
}

// Answers are memory of their own, and what is handed in is neither changed nor kept.
func TestAnew(t *testing.T) {
	s, tree := low(5, 6)
	whole := s.pin()
	room := []int{7, 8, 9, 700, 701}
	free := room[:3]
	c := cow.Begin(s, tree, free)
	put(t, c, key(0), "x", true)
	if !slices.Equal(room, []int{7, 8, 9, 700, 701}) {
		t.Error("the numbers were changed", room)
	}
	clear(room)
	spoilAll := func() {
		for n := range 110 {
			if p, err := c.Page(n); err == nil {
				spoil(p)
			}
		}
		for _, f := range c.Fresh() {
			spoil(f.Page)
		}
		l := c.Dropped()
		clear(l[:cap(l)])
	}
	want := mapOf(t, s, tree)
	want[key(0)] = "x"
	spoilAll()
	check(t, s, tree, numbers(7, 10), c, want)
	remove(t, c, key(10), true)
	delete(want, key(10))
	spoilAll()
	check(t, s, tree, numbers(7, 10), c, want)
	if !whole() {
		t.Error("the source's pages were changed")
	}
}

// P13.2, P13.3: keys and values that may not be; the change is as it was.
func TestLong(t *testing.T) {
	s, tree := low(5, 5)
	c := cow.Begin(s, tree, numbers(10, 20))
	put(t, c, key(0), "x", true)
	was := c.Tree()
	s.asked = nil
	for _, k := range []string{"", strings.Repeat("k", 17), strings.Repeat("\x00", 1000)} {
		if there, err := c.Put(k, "1"); there || err != api.ErrLong {
			t.Error(k, there, err)
		}
		if there, err := c.Delete(k); there || err != api.ErrLong {
			t.Error(k, there, err)
		}
	}
	for _, k := range []string{key(0), "z", ""} {
		if there, err := c.Put(k, strings.Repeat("v", 25)); there || err != api.ErrLong {
			t.Error(k, there, err)
		}
	}
	if c.Tree() != was || !slices.Equal(freshNumbers(c), []int{10, 11}) || !slices.Equal(c.Dropped(), []int{1, 100}) || len(s.asked) != 0 {
		t.Error(c.Tree(), c.Fresh(), c.Dropped(), s.asked)
	}
	// It goes before all other errors.
	for _, tree := range []look.Tree{{}, {Root: 1, Height: 9}, {Root: 55, Height: 1}} {
		c := cow.Begin(s, tree, nil)
		if _, err := c.Put("", "1"); err != api.ErrLong {
			t.Error(err)
		}
		if _, err := c.Delete(""); err != api.ErrLong {
			t.Error(err)
		}
	}
}

// P13.2: the longest key and the longest value, and an empty value.
func TestLongest(t *testing.T) {
	c := cow.Begin(newShelf(), look.Tree{}, []int{1})
	k, v := strings.Repeat("\xff", 16), strings.Repeat("\x00", 24)
	put(t, c, k, v, false)
	put(t, c, "\x00", "", false)
	wantPage(t, c, 1, page.Page{Keys: []string{"\x00", k}, Values: []string{"", v}})
	remove(t, c, k, true)
	remove(t, c, "\x00", true)
	if c.Tree() != (look.Tree{}) {
		t.Error(c.Tree())
	}
}

// P13.2, P13.3: layer 12's errors: a tree that may not be.
func TestWrongTree(t *testing.T) {
	s, _ := low(5, 5)
	for _, tree := range []look.Tree{{Root: 100, Height: -1}, {Root: 100, Height: 7}, {Root: 100}, {Height: 1}, {Root: 1, Height: math.MaxInt}, {Root: 1, Height: math.MinInt}} {
		for _, free := range [][]int{nil, {7, 8, 9}} {
			c := cow.Begin(s, tree, free)
			if there, err := c.Put(key(0), "1"); there || err != api.ErrArg {
				t.Error(tree, there, err)
			}
			if there, err := c.Delete(key(0)); there || err != api.ErrArg {
				t.Error(tree, there, err)
			}
		}
	}
	if len(s.asked) != 0 {
		t.Error("asked", s.asked)
	}
}

// P13.2, P13.3: layer 12's errors of the pages on the way go before a want of numbers.
func TestFaultOnTheWay(t *testing.T) {
	for _, free := range [][]int{nil, {500}, numbers(500, 520)} {
		for _, n := range []int{100, 102, 14} {
			for _, wrong := range []error{api.ErrSum, api.ErrPower, nil} {
				s, tree := high(5, 12, 12)
				want := api.ErrCorrupt
				if wrong == nil {
					// Right, but of another Level.
					s.pages[n] = page.Page{Level: 5, Keys: []string{"", "a"}, Kids: []int{1, 2}}
				} else {
					want = wrong.(api.Errno)
					s.wrong[n] = wrong
				}
				k := key(5*13 + 2)
				there, err := cow.Begin(s, tree, free).Put(k, "x")
				wantFault(t, err, n, want)
				if there {
					t.Error("there")
				}
				there, err = cow.Begin(s, tree, free).Delete(k)
				wantFault(t, err, n, want)
				if there {
					t.Error("there")
				}
			}
		}
	}
}

// P13.2, P13.3: a page that isn't right is told, too.
func TestCrookedOnTheWay(t *testing.T) {
	s, tree := low(5, 5)
	s.pages[2] = page.Page{Keys: []string{key(7), key(6)}, Values: []string{"", ""}}
	_, err := cow.Begin(s, tree, numbers(10, 20)).Put(key(7), "x")
	wantFault(t, err, 2, api.ErrCorrupt)
	_, err = cow.Begin(s, tree, numbers(10, 20)).Delete(key(7))
	wantFault(t, err, 2, api.ErrCorrupt)
	// Who isn't on the way, nor joined, isn't asked.
	s, tree = low(6, 5)
	s.wrong[2] = api.ErrSum
	c := cow.Begin(s, tree, numbers(10, 20))
	put(t, c, key(0), "x", true)
	remove(t, c, key(1), true)
}

// P13.1: Fresh and Dropped by rising numbers, whatever the order in which the numbers are taken.
func TestRising(t *testing.T) {
	s, tree := high(5, 12, 12)
	c := cow.Begin(s, tree, []int{900, 30, 700, 50, 600, 40})
	put(t, c, key(0), "x", true)
	put(t, c, key(60), "x", true)
	if got := freshNumbers(c); !slices.IsSorted(got) || len(got) != 5 {
		t.Error(got)
	}
	if got := c.Dropped(); !slices.Equal(got, []int{1, 13, 100, 101, 102}) {
		t.Error(got)
	}
}
