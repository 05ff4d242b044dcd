package cow_test

import (
	"slices"
	"testing"

	"posthorse/api"
	"posthorse/cow"
	"posthorse/look"
	"posthorse/page"
)

// P13.3: what isn't there changes nothing, and needs no number.
func TestDeleteNone(t *testing.T) {
	for _, free := range [][]int{nil, {20, 21}} {
		s, tree := low(5, 5)
		c := cow.Begin(s, tree, free)
		for _, k := range []string{"a", "z", key(3) + "\x00", key(10)} {
			remove(t, c, k, false)
		}
		if c.Tree() != tree || len(c.Fresh()) != 0 || len(c.Dropped()) != 0 {
			t.Error(c.Tree(), c.Fresh(), c.Dropped())
		}
		c = cow.Begin(newShelf(), look.Tree{}, free)
		remove(t, c, "a", false)
		if c.Tree() != (look.Tree{}) {
			t.Error(c.Tree())
		}
	}
}

// P13.3: a leaf that has enough still: it and those above are made anew.
func TestDeletePlain(t *testing.T) {
	s, tree := low(5, 6, 5)
	free := []int{30, 20}
	c := cow.Begin(s, tree, free)
	want := mapOf(t, s, tree)
	remove(t, c, key(5), true)
	delete(want, key(5))
	check(t, s, tree, free, c, want)
	if !slices.Equal(freshNumbers(c), []int{20, 30}) || !slices.Equal(c.Dropped(), []int{2, 100}) {
		t.Error(c.Fresh(), c.Dropped())
	}
	remove(t, c, key(5), false)
	// The page above has the key ahead of the leaf still, though the leaf hasn't.
	if root, err := c.Page(c.Tree().Root); err != nil || !slices.Equal(root.Keys, []string{"", key(5), key(11)}) {
		t.Error(root, err)
	}
}

// P13.3: leaves that have too few entries are joined with the next one, or with the one ahead.
func TestJoinOfLeaves(t *testing.T) {
	for _, c := range []struct {
		sizes   []int
		at      int // the leaf of which an entry is gone
		want    []int
		dropped []int
	}{
		{[]int{5, 5}, 0, []int{9}, []int{1, 2, 100}},
		{[]int{5, 5}, 1, []int{9}, []int{1, 2, 100}},
		{[]int{5, 7}, 0, []int{11}, []int{1, 2, 100}},
		{[]int{7, 5}, 1, []int{11}, []int{1, 2, 100}},
		{[]int{5, 8}, 0, []int{6, 6}, []int{1, 2, 100}},
		{[]int{8, 5}, 1, []int{6, 6}, []int{1, 2, 100}},
		{[]int{5, 11}, 0, []int{8, 7}, []int{1, 2, 100}},
		{[]int{11, 5}, 1, []int{8, 7}, []int{1, 2, 100}},
		{[]int{6, 5}, 0, []int{5, 5}, []int{1, 100}},
		{[]int{5, 5, 5}, 0, []int{9, 5}, []int{1, 2, 100}},
		{[]int{5, 5, 5}, 1, []int{5, 9}, []int{2, 3, 100}},
		{[]int{5, 5, 5}, 2, []int{5, 9}, []int{2, 3, 100}},
		{[]int{11, 5, 5}, 1, []int{11, 9}, []int{2, 3, 100}},
		{[]int{5, 5, 11}, 1, []int{5, 8, 7}, []int{2, 3, 100}},
		{[]int{5, 5, 11}, 0, []int{9, 11}, []int{1, 2, 100}},
		{[]int{9, 10, 5}, 2, []int{9, 7, 7}, []int{2, 3, 100}},
	} {
		from := 0
		for _, n := range c.sizes[:c.at] {
			from += n
		}
		for i := from; i < from+c.sizes[c.at]; i++ {
			s, tree := low(c.sizes...)
			free := numbers(20, 30)
			d := cow.Begin(s, tree, free)
			want := mapOf(t, s, tree)
			remove(t, d, key(i), true)
			delete(want, key(i))
			check(t, s, tree, free, d, want)
			if got := shape(t, d, d.Tree(), 0); !slices.Equal(got, c.want) {
				t.Errorf("%v without one of %d: %v, want %v", c.sizes, c.at, got, c.want)
			}
			if got := d.Dropped(); !slices.Equal(got, c.dropped) {
				t.Errorf("%v without one of %d: dropped %v", c.sizes, c.at, got)
			}
			height := 2
			if len(c.want) == 1 {
				height = 1
			}
			if d.Tree().Height != height {
				t.Error(c.sizes, d.Tree())
			}
		}
	}
}

// P13.3: the key ahead of the second page, where a whole is split into both, is its first one.
func TestKeyBetween(t *testing.T) {
	s, tree := low(5, 5, 11)
	c := cow.Begin(s, tree, numbers(20, 30))
	remove(t, c, key(7), true)
	root, err := c.Page(c.Tree().Root)
	// 5, 6, 8, 9 and 10 to 20: eight of them, then from 14 on.
	if err != nil || !slices.Equal(root.Keys, []string{"", key(5), key(14)}) {
		t.Error(root, err)
	}
	wantPage(t, c, root.Kids[2], leaf(14, 7))
}

// P13.3: inner pages are joined likewise: the key between them comes down.
func TestJoinOfInner(t *testing.T) {
	for _, c := range []struct {
		sizes []int
		at    int // the inner page below which leaves are joined
		want  []int
	}{
		{[]int{12, 12}, 0, []int{23}},
		{[]int{12, 12}, 1, []int{23}},
		{[]int{12, 14}, 0, []int{25}},
		{[]int{14, 12}, 1, []int{25}},
		{[]int{12, 15}, 0, []int{13, 13}},
		{[]int{15, 12}, 1, []int{13, 13}},
		{[]int{12, 25}, 0, []int{18, 18}},
		{[]int{25, 12}, 1, []int{18, 18}},
		{[]int{13, 12}, 0, []int{12, 12}},
		{[]int{12, 12, 12}, 0, []int{23, 12}},
		{[]int{12, 12, 12}, 1, []int{12, 23}},
		{[]int{12, 12, 12}, 2, []int{12, 23}},
		{[]int{15, 12, 12}, 1, []int{15, 23}},
		{[]int{12, 12, 16}, 1, []int{12, 14, 13}},
	} {
		from := 0
		for _, n := range c.sizes[:c.at] {
			from += 5 * n
		}
		for i := from; i < from+5*c.sizes[c.at]; i++ {
			s, tree := high(5, c.sizes...)
			free := numbers(200, 220)
			d := cow.Begin(s, tree, free)
			want := mapOf(t, s, tree)
			remove(t, d, key(i), true)
			delete(want, key(i))
			check(t, s, tree, free, d, want)
			if got := shape(t, d, d.Tree(), 1); !slices.Equal(got, c.want) {
				t.Fatalf("%v without %d: %v, want %v", c.sizes, i, got, c.want)
			}
			height := 3
			if len(c.want) == 1 {
				height = 2
			}
			if d.Tree().Height != height {
				t.Error(c.sizes, d.Tree())
			}
		}
	}
}

// P13.3: leaves that are split into both leave the inner page with as many kids, however few.
func TestInnerStays(t *testing.T) {
	twelve := slices.Repeat([]int{5}, 12)
	first := slices.Clone(twelve)
	first[1] = 11
	s, tree := tall(first, twelve)
	free := numbers(200, 220)
	c := cow.Begin(s, tree, free)
	want := mapOf(t, s, tree)
	remove(t, c, key(0), true)
	delete(want, key(0))
	check(t, s, tree, free, c, want)
	if got := shape(t, c, c.Tree(), 1); !slices.Equal(got, []int{12, 12}) {
		t.Error(got)
	}
	if got := shape(t, c, c.Tree(), 0); got[0] != 8 || got[1] != 7 || len(got) != 24 {
		t.Error(got)
	}
	if !slices.Equal(c.Dropped(), []int{1, 2, 100, 101}) {
		t.Error(c.Dropped())
	}
}

// P13.3: a root is made anew ahead of giving way, and its number comes next again.
func TestRootGivesWay(t *testing.T) {
	one := func() *shelf {
		s := newShelf()
		s.pages[4] = leaf(0, 1)
		return s
	}
	tree := look.Tree{Root: 4, Height: 1}
	if there, err := cow.Begin(one(), tree, nil).Delete(key(0)); there || err != api.ErrSpace {
		t.Error(there, err)
	}
	c := cow.Begin(one(), tree, []int{7, 3})
	remove(t, c, key(0), true)
	if c.Tree() != (look.Tree{}) || len(c.Fresh()) != 0 || !slices.Equal(c.Dropped(), []int{4}) {
		t.Error(c.Tree(), c.Fresh(), c.Dropped())
	}
	remove(t, c, key(0), false)
	put(t, c, key(5), "x", false)
	if c.Tree() != (look.Tree{Root: 7, Height: 1}) || !slices.Equal(c.Dropped(), []int{4}) {
		t.Error(c.Tree(), c.Dropped())
	}
	// A fresh one needs no number.
	c = cow.Begin(newShelf(), look.Tree{}, []int{7})
	for i := range 5 {
		put(t, c, key(i), "x", false)
		remove(t, c, key(i), true)
		if c.Tree() != (look.Tree{}) || len(c.Fresh()) != 0 || len(c.Dropped()) != 0 {
			t.Error(c.Tree(), c.Fresh(), c.Dropped())
		}
	}
	// A leaf that is the root may be empty at the beginning.
	s := newShelf()
	s.pages[4] = page.Page{}
	c = cow.Begin(s, tree, []int{7})
	remove(t, c, "a", false)
	put(t, c, "a", "1", false)
	wantPage(t, c, 7, page.Page{Keys: []string{"a"}, Values: []string{"1"}})
}

// P13.3: what was fresh and isn't of the tree any more gives its number back, which comes next.
func TestNumberComesNext(t *testing.T) {
	c := cow.Begin(newShelf(), look.Tree{}, []int{7, 3, 5, 9, 11})
	for i := range 12 {
		put(t, c, key(i), value(i), false)
	}
	// The leaves 7 and 3 below the root 5.
	remove(t, c, key(0), true)
	remove(t, c, key(1), true)
	if c.Tree() != (look.Tree{Root: 7, Height: 1}) || !slices.Equal(freshNumbers(c), []int{7}) {
		t.Fatal(c.Tree(), c.Fresh())
	}
	wantPage(t, c, 7, leaf(2, 10))
	put(t, c, key(12), value(12), false)
	put(t, c, key(13), value(13), false)
	if got := freshNumbers(c); !slices.Equal(got, []int{3, 5, 7}) || c.Tree().Height != 2 {
		t.Error(got)
	}
	// The last one is joined with the one ahead, in the place of that.
	remove(t, c, key(13), true)
	remove(t, c, key(12), true)
	if c.Tree() != (look.Tree{Root: 7, Height: 1}) || !slices.Equal(freshNumbers(c), []int{7}) || len(c.Dropped()) != 0 {
		t.Error(c.Tree(), c.Fresh(), c.Dropped())
	}
}

// P13.3: a fresh leaf that is joined into one of the tree's.
func TestFreshIntoElder(t *testing.T) {
	s, tree := low(5, 6, 5)
	free := []int{30, 31, 32, 33}
	c := cow.Begin(s, tree, free)
	want := mapOf(t, s, tree)
	put(t, c, key(15), "x", true) // the last leaf and the root are fresh
	want[key(15)] = "x"
	check(t, s, tree, free, c, want)
	remove(t, c, key(15), true)
	delete(want, key(15))
	check(t, s, tree, free, c, want)
	if !slices.Equal(c.Dropped(), []int{2, 3, 100}) || len(c.Fresh()) != 2 || slices.Contains(freshNumbers(c), 33) {
		t.Error(c.Fresh(), c.Dropped())
	}
	// 30 was the last leaf's: it comes next, when the first one is made anew.
	if slices.Contains(freshNumbers(c), 30) {
		t.Fatal(c.Fresh())
	}
	put(t, c, key(0), "y", true)
	want[key(0)] = "y"
	check(t, s, tree, free, c, want)
	if !slices.Contains(freshNumbers(c), 30) {
		t.Error(c.Fresh())
	}
}

// P13.3: with just so many numbers as it needs it goes well, with one less it doesn't.
func TestDeleteSpace(t *testing.T) {
	for _, c := range []struct {
		name string
		make func() (*shelf, look.Tree)
		i    int
		need int
	}{
		{"plain", func() (*shelf, look.Tree) { return low(6, 5) }, 0, 2},
		{"joined", func() (*shelf, look.Tree) { return low(5, 5, 5) }, 0, 2},
		{"split into both", func() (*shelf, look.Tree) { return low(5, 11) }, 0, 3},
		{"split into both, the last", func() (*shelf, look.Tree) { return low(11, 5) }, 11, 3},
		{"a root gives way", func() (*shelf, look.Tree) { return low(5, 5) }, 0, 2},
		{"a root gives way, the last", func() (*shelf, look.Tree) { return low(5, 5) }, 9, 2},
		{"deep", func() (*shelf, look.Tree) { return high(6, 12, 12) }, 0, 3},
		{"a deep root gives way", func() (*shelf, look.Tree) { return high(5, 12, 12) }, 0, 3},
		{"deep, split into both", func() (*shelf, look.Tree) { return high(5, 12, 25) }, 0, 4},
	} {
		for n := range c.need + 1 {
			s, tree := c.make()
			whole := s.pin()
			_, err := cow.Begin(s, tree, numbers(900, 900+n)).Delete(key(c.i))
			if n < c.need && err != api.ErrSpace || n == c.need && err != nil {
				t.Error(c.name, n, err)
			}
			if !whole() {
				t.Error(c.name, "the source's pages were changed")
			}
		}
	}
}

// P13.3: layer 12's errors of a page that another one is joined with; they go before a want of numbers.
func TestFaultBeside(t *testing.T) {
	for _, free := range [][]int{nil, {500}, numbers(500, 520)} {
		for _, c := range []struct{ i, beside int }{
			{0, 2}, {7, 3}, {59, 11}, {60, 14}, {119, 23}, // leaves
			{0, 102}, {119, 101}, // inner pages
		} {
			for way := range 3 {
				s, tree := high(5, 12, 12)
				want := api.ErrCorrupt
				switch way {
				case 0:
					want = api.ErrSum
					s.wrong[c.beside] = want
				case 1:
					s.pages[c.beside] = page.Page{Level: 4, Keys: []string{"", "a"}, Kids: []int{1, 2}}
				case 2:
					s.pages[c.beside] = page.Page{Level: s.pages[c.beside].Level, Keys: []string{"b", "a"}}
				}
				there, err := cow.Begin(s, tree, free).Delete(key(c.i))
				wantFault(t, err, c.beside, want)
				if there {
					t.Error("there")
				}
			}
		}
	}
}

// P13.3: the pages on the way are asked, and those that are joined; no other one.
func TestDeleteAsks(t *testing.T) {
	for _, c := range []struct {
		each int
		i    int
		want []int
	}{
		{6, 0, []int{100, 101, 1}},
		{5, 0, []int{100, 101, 1, 2, 102}},
		{5, 119, []int{100, 102, 24, 23, 101}},
		{8, 100, []int{100, 102, 13}},
	} {
		s, tree := high(c.each, 12, 12)
		d := cow.Begin(s, tree, numbers(900, 920))
		remove(t, d, key(c.i), true)
		if !slices.Equal(s.asked, c.want) {
			t.Error(c, s.asked)
		}
	}
}
