package cow_test

import (
	"slices"
	"testing"

	"posthorse/api"
	"posthorse/cow"
	"posthorse/look"
	"posthorse/page"
)

// P13.2: into an empty tree a leaf comes; its number is the first one, and is kept.
func TestPutFirst(t *testing.T) {
	c := cow.Begin(newShelf(), look.Tree{}, []int{7, 3, 5})
	put(t, c, key(1), "a", false)
	put(t, c, key(0), "b", false)
	put(t, c, key(1), "c", true)
	if c.Tree() != (look.Tree{Root: 7, Height: 1}) || !slices.Equal(freshNumbers(c), []int{7}) || len(c.Dropped()) != 0 {
		t.Error(c.Tree(), c.Fresh(), c.Dropped())
	}
	wantPage(t, c, 7, page.Page{Keys: []string{key(0), key(1)}, Values: []string{"b", "c"}})
	if there, err := cow.Begin(newShelf(), look.Tree{}, nil).Put("a", "1"); there || err != api.ErrSpace {
		t.Error(there, err)
	}
}

// P13.2: the document's example. The numbers are taken in order.
func TestSplitOfRoot(t *testing.T) {
	c := cow.Begin(newShelf(), look.Tree{}, []int{7, 3, 5, 9})
	for i := range 11 {
		put(t, c, key(i), value(i), false)
	}
	wantPage(t, c, 7, leaf(0, 11))
	put(t, c, key(11), value(11), false)
	if c.Tree() != (look.Tree{Root: 5, Height: 2}) || !slices.Equal(freshNumbers(c), []int{3, 5, 7}) || len(c.Dropped()) != 0 {
		t.Error(c.Tree(), c.Fresh(), c.Dropped())
	}
	wantPage(t, c, 7, leaf(0, 6))
	wantPage(t, c, 3, leaf(6, 6))
	wantPage(t, c, 5, inner(1, [2]int{7, 0}, [2]int{3, 6}))
}

// P13.2: a page of the tree is dropped, and the next one stands for it; a fresh one keeps its number.
func TestPutOver(t *testing.T) {
	s, tree := low(5, 11, 5)
	free := []int{30, 20, 25}
	c := cow.Begin(s, tree, free)
	want := mapOf(t, s, tree)
	put(t, c, key(7), "x", true)
	want[key(7)] = "x"
	check(t, s, tree, free, c, want)
	if !slices.Equal(freshNumbers(c), []int{20, 30}) || !slices.Equal(c.Dropped(), []int{2, 100}) || c.Tree().Height != 2 {
		t.Error(c.Tree(), c.Fresh(), c.Dropped())
	}
	root, tops := c.Tree(), c.Fresh()
	put(t, c, key(7), "y", true)
	put(t, c, key(8), "y", true)
	if c.Tree() != root || !slices.Equal(freshNumbers(c), []int{20, 30}) || !slices.Equal(c.Dropped(), []int{2, 100}) {
		t.Error(c.Tree(), c.Fresh(), c.Dropped())
	}
	i := slices.IndexFunc(tops, func(f cow.Fresh) bool { return f.Page.Level == 1 })
	wantPage(t, c, root.Root, tops[i].Page)
	// Another leaf: the root is fresh already.
	put(t, c, key(0), "z", true)
	want[key(7)], want[key(8)], want[key(0)] = "y", "y", "z"
	check(t, s, tree, free, c, want)
	if !slices.Equal(freshNumbers(c), []int{20, 25, 30}) || !slices.Equal(c.Dropped(), []int{1, 2, 100}) {
		t.Error(c.Tree(), c.Fresh(), c.Dropped())
	}
	if there, err := c.Put(key(20), "z"); there || err != api.ErrSpace {
		t.Error(there, err)
	}
}

// P13.2: the same value once more is a Put as any other.
func TestPutSame(t *testing.T) {
	s, tree := low(5, 5)
	c := cow.Begin(s, tree, numbers(20, 30))
	put(t, c, key(3), value(3), true)
	check(t, s, tree, numbers(20, 30), c, mapOf(t, s, tree))
	if len(c.Fresh()) != 2 || !slices.Equal(c.Dropped(), []int{1, 100}) {
		t.Error(c.Fresh(), c.Dropped())
	}
}

// P13.2: a leaf is split, the page above gets the second part.
func TestSplitOfLeaf(t *testing.T) {
	for at := range 3 {
		sizes := []int{5, 5, 5}
		sizes[at] = 11
		s, tree := low(sizes...)
		free := numbers(20, 30)
		c := cow.Begin(s, tree, free)
		want := mapOf(t, s, tree)
		k := key(5*at+4) + "\x00"
		put(t, c, k, "x", false)
		want[k] = "x"
		check(t, s, tree, free, c, want)
		sizes = slices.Replace(sizes, at, at+1, 6, 6)
		if got := shape(t, c, c.Tree(), 0); !slices.Equal(got, sizes) {
			t.Error(got, sizes)
		}
		// The key ahead of the second part is its first one: five were below the new one, which is the sixth.
		root, err := c.Page(c.Tree().Root)
		if err != nil || root.Keys[at+1] != key(5*at+5) || len(root.Keys) != 4 {
			t.Error(root, err)
		}
		if len(c.Fresh()) != 3 || !slices.Equal(c.Dropped(), []int{at + 1, 100}) {
			t.Error(c.Fresh(), c.Dropped())
		}
	}
}

// P13.2: an inner page that is the root is split; its second part's first key goes up.
func TestSplitOfInnerRoot(t *testing.T) {
	sizes := slices.Repeat([]int{5}, 25)
	sizes[24] = 11
	s, tree := low(sizes...)
	free := numbers(200, 210)
	c := cow.Begin(s, tree, free)
	want := mapOf(t, s, tree)
	put(t, c, key(131), "x", false)
	want[key(131)] = "x"
	check(t, s, tree, free, c, want)
	if c.Tree().Height != 3 || len(c.Fresh()) != 5 || !slices.Equal(c.Dropped(), []int{25, 100}) {
		t.Error(c.Tree(), c.Fresh(), c.Dropped())
	}
	root, err := c.Page(c.Tree().Root)
	if err != nil || root.Level != 2 || !slices.Equal(root.Keys, []string{"", key(65)}) {
		t.Fatal(root, err)
	}
	for i, from := range []int{0, 13} {
		p, err := c.Page(root.Kids[i])
		if err != nil || len(p.Keys) != 13 || p.Keys[0] != "" || p.Keys[1] != key(5*(from+1)) || p.Kids[0] != from+1 {
			t.Error(p, err)
		}
	}
}

// P13.2: an inner page below the root is split.
func TestSplitOfInner(t *testing.T) {
	s, tree := high(11, 12, 25, 12)
	free := numbers(200, 210)
	c := cow.Begin(s, tree, free)
	want := mapOf(t, s, tree)
	k := key(11*20+3) + "\x00"
	put(t, c, k, "x", false)
	want[k] = "x"
	check(t, s, tree, free, c, want)
	if got := shape(t, c, c.Tree(), 1); !slices.Equal(got, []int{12, 13, 13, 12}) || c.Tree().Height != 3 {
		t.Error(got)
	}
	if len(c.Fresh()) != 5 || !slices.Equal(c.Dropped(), []int{21, 100, 102}) {
		t.Error(c.Fresh(), c.Dropped())
	}
}

// P13.2: with just so many numbers as pages are made it goes well, with one less it doesn't.
func TestPutSpace(t *testing.T) {
	full := slices.Repeat([]int{11}, 25)
	for _, c := range []struct {
		name string
		make func() (*shelf, look.Tree)
		key  string
		need int
	}{
		{"empty", func() (*shelf, look.Tree) { return newShelf(), look.Tree{} }, "a", 1},
		{"over", func() (*shelf, look.Tree) { return low(5, 5) }, key(3), 2},
		{"in", func() (*shelf, look.Tree) { return low(5, 5) }, "a", 2},
		{"split", func() (*shelf, look.Tree) { return low(11, 5) }, "a", 3},
		{"over, in a full leaf", func() (*shelf, look.Tree) { return low(11, 5) }, key(3), 2},
		{"new root", func() (*shelf, look.Tree) { return low(full...) }, "a", 5},
		{"deep", func() (*shelf, look.Tree) { return high(5, 12, 12) }, "a", 3},
		{"deep split", func() (*shelf, look.Tree) { return high(11, 25, 25) }, "z", 5},
	} {
		for n := range c.need + 1 {
			s, tree := c.make()
			whole := s.pin()
			_, err := cow.Begin(s, tree, numbers(900, 900+n)).Put(c.key, "x")
			if n < c.need && err != api.ErrSpace || n == c.need && err != nil {
				t.Error(c.name, n, err)
			}
			if !whole() {
				t.Error(c.name, "the source's pages were changed")
			}
		}
	}
}

// steep is a source of full pages: the page n has the Level n - 1.
type steep struct{}

func (steep) Page(n int) (page.Page, error) {
	if n == 1 {
		return leaf(0, 11), nil
	}
	var kids [][2]int
	for i := range 25 {
		kids = append(kids, [2]int{n - 1, 100 + i})
	}
	return inner(n-1, kids...), nil
}

// P13.2: the tree may not be higher than MaxHeight.
func TestTooHigh(t *testing.T) {
	for height := 1; height <= api.MaxHeight; height++ {
		c := cow.Begin(steep{}, look.Tree{Root: height, Height: height}, numbers(100, 200))
		there, err := c.Put("a", "x")
		if height == api.MaxHeight {
			if there || err != api.ErrSpace {
				t.Error(height, there, err)
			}
			continue
		}
		if there || err != nil || c.Tree().Height != height+1 || len(c.Fresh()) != 2*height+1 {
			t.Error(height, there, err, c.Tree())
		}
		if p, err := c.Page(c.Tree().Root); err != nil || p.Level != height || !page.Right(p) {
			t.Error(height, p, err)
		}
	}
	// What doesn't grow it goes well.
	c := cow.Begin(steep{}, look.Tree{Root: 6, Height: 6}, numbers(100, 200))
	put(t, c, key(0), "x", true)
	if c.Tree().Height != 6 || len(c.Fresh()) != 6 {
		t.Error(c.Tree(), c.Fresh())
	}
}

// P13.2: each page on the way is asked once, and no other one.
func TestPutAsks(t *testing.T) {
	s, tree := high(11, 25, 25)
	c := cow.Begin(s, tree, numbers(900, 920))
	put(t, c, "a", "x", false)
	if !slices.Equal(s.asked, []int{100, 101, 1}) {
		t.Error(s.asked)
	}
}
