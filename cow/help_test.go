package cow_test

import (
	"errors"
	"maps"
	"slices"
	"strconv"
	"testing"

	"posthorse/api"
	"posthorse/cow"
	"posthorse/fault"
	"posthorse/look"
	"posthorse/page"
)

// shelf is a source that writes down what it is asked, and tells its own memory.
type shelf struct {
	pages map[int]page.Page
	wrong map[int]error
	asked []int
}

func newShelf() *shelf { return &shelf{pages: map[int]page.Page{}, wrong: map[int]error{}} }

func (s *shelf) Page(n int) (page.Page, error) {
	s.asked = append(s.asked, n)
	p, ok := s.pages[n]
	if !ok {
		return page.Page{}, api.ErrNone
	}
	// A source may tell a page beside an error: it counts for nothing.
	return p, s.wrong[n]
}

// key of a number: such keys rise as their numbers do.
func key(i int) string { return "k" + strconv.Itoa(10000+i) }

// value that the key of a number has at first.
func value(i int) string { return "v" + strconv.Itoa(i) }

// leaf of the keys of so many numbers, from one on.
func leaf(from, n int) page.Page {
	var p page.Page
	for i := from; i < from+n; i++ {
		p.Keys, p.Values = append(p.Keys, key(i)), append(p.Values, value(i))
	}
	return p
}

// inner page of a level over kids, each with the number of the first key below it.
func inner(level int, kids ...[2]int) page.Page {
	p := page.Page{Level: level}
	for i, k := range kids {
		first := key(k[1])
		if i == 0 {
			first = ""
		}
		p.Keys, p.Kids = append(p.Keys, first), append(p.Kids, k[0])
	}
	return p
}

// low: a tree of the Height 2 whose leaves have so many entries: the leaves are the pages 1, 2 and so on, the root is the page 100.
func low(sizes ...int) (*shelf, look.Tree) {
	s := newShelf()
	var kids [][2]int
	from := 0
	for i, n := range sizes {
		s.pages[i+1] = leaf(from, n)
		kids = append(kids, [2]int{i + 1, from})
		from += n
	}
	s.pages[100] = inner(1, kids...)
	return s, look.Tree{Root: 100, Height: 2}
}

// tall: a tree of the Height 3: for each inner page how many entries its leaves have. The leaves are the pages 1, 2 and so on, the inner ones 101, 102 and so on, the root is the page 100.
func tall(sizes ...[]int) (*shelf, look.Tree) {
	s := newShelf()
	var tops [][2]int
	n, from := 0, 0
	for i, l := range sizes {
		tops = append(tops, [2]int{101 + i, from})
		var kids [][2]int
		for _, size := range l {
			n++
			s.pages[n] = leaf(from, size)
			kids = append(kids, [2]int{n, from})
			from += size
		}
		s.pages[101+i] = inner(1, kids...)
	}
	s.pages[100] = inner(2, tops...)
	return s, look.Tree{Root: 100, Height: 3}
}

// high: such a tree, whose leaves have all so many entries, below inner pages that have so many leaves.
func high(each int, sizes ...int) (*shelf, look.Tree) {
	var l [][]int
	for _, n := range sizes {
		l = append(l, slices.Repeat([]int{each}, n))
	}
	return tall(l...)
}

// numbers from one on, below another one.
func numbers(from, to int) []int {
	var l []int
	for n := from; n < to; n++ {
		l = append(l, n)
	}
	return l
}

// shape: how many entries each page of a level has, in order.
func shape(t *testing.T, s look.Source, tree look.Tree, level int) []int {
	t.Helper()
	l, err := look.Pages(s, tree)
	if err != nil {
		t.Fatal(err)
	}
	var out []int
	for _, n := range l {
		if p, _ := s.Page(n); p.Level == level {
			out = append(out, len(p.Keys))
		}
	}
	return out
}

// copyOf a page: the same in memory of its own.
func copyOf(p page.Page) page.Page {
	return page.Page{
		Level:  p.Level,
		Keys:   slices.Clone(p.Keys),
		Values: slices.Clone(p.Values),
		Kids:   slices.Clone(p.Kids),
	}
}

func same(a, b page.Page) bool {
	return a.Level == b.Level && slices.Equal(a.Keys, b.Keys) && slices.Equal(a.Values, b.Values) && slices.Equal(a.Kids, b.Kids)
}

// spoil all that can be reached by a page's lists.
func spoil(p page.Page) {
	for i := range p.Keys[:cap(p.Keys)] {
		p.Keys[:cap(p.Keys)][i] = "spoilt"
	}
	for i := range p.Values[:cap(p.Values)] {
		p.Values[:cap(p.Values)][i] = "spoilt"
	}
	for i := range p.Kids[:cap(p.Kids)] {
		p.Kids[:cap(p.Kids)][i] = -5
	}
}

// pin: a look whether a shelf's pages are all as they are now.
func (s *shelf) pin() func() bool {
	was := map[int]page.Page{}
	for n, p := range s.pages {
		was[n] = copyOf(p)
	}
	return func() bool { return maps.EqualFunc(was, s.pages, same) }
}

// freshNumbers of a change.
func freshNumbers(c *cow.Change) []int {
	var l []int
	for _, f := range c.Fresh() {
		l = append(l, f.N)
	}
	return l
}

// mapOf all entries of a tree.
func mapOf(t *testing.T, s look.Source, tree look.Tree) map[string]string {
	t.Helper()
	l, err := look.Scan(s, tree, "", "")
	if err != nil {
		t.Fatal(err)
	}
	m := map[string]string{}
	for _, e := range l {
		m[e.Key] = e.Value
	}
	if len(m) != len(l) {
		t.Fatal("a key comes twice")
	}
	return m
}

// check all that holds behind a call without an error, of a change that began with a right tree and these free numbers.
func check(t *testing.T, s *shelf, began look.Tree, free []int, c *cow.Change, want map[string]string) {
	t.Helper()
	was, err := look.Pages(s, began)
	if err != nil {
		t.Fatal(err)
	}
	is, err := look.Pages(c, c.Tree())
	if err != nil {
		t.Fatal("the tree isn't right:", err)
	}
	if got := mapOf(t, c, c.Tree()); !maps.Equal(got, want) {
		t.Fatalf("entries %v, want %v", got, want)
	}
	var gone, made []int
	for _, n := range was {
		if !slices.Contains(is, n) {
			gone = append(gone, n)
		}
	}
	for _, n := range is {
		if !slices.Contains(was, n) {
			made = append(made, n)
		}
	}
	slices.Sort(gone)
	slices.Sort(made)
	if got := c.Dropped(); !slices.Equal(got, gone) {
		t.Fatalf("dropped %v, want %v", got, gone)
	}
	if got := freshNumbers(c); !slices.Equal(got, made) {
		t.Fatalf("fresh %v, want %v", got, made)
	}
	for _, f := range c.Fresh() {
		p, err := c.Page(f.N)
		if err != nil || !same(p, f.Page) || !slices.Contains(free, f.N) {
			t.Fatal("fresh", f, p, err)
		}
	}
}

// put what must go well.
func put(t *testing.T, c *cow.Change, key, value string, there bool) {
	t.Helper()
	if was, err := c.Put(key, value); was != there || err != nil {
		t.Fatalf("Put(%q, %q) = %v, %v", key, value, was, err)
	}
}

// remove what must go well.
func remove(t *testing.T, c *cow.Change, key string, there bool) {
	t.Helper()
	if was, err := c.Delete(key); was != there || err != nil {
		t.Fatalf("Delete(%q) = %v, %v", key, was, err)
	}
}

// wantPage: is it that page?
func wantPage(t *testing.T, s look.Source, n int, want page.Page) {
	t.Helper()
	if p, err := s.Page(n); err != nil || !same(p, want) {
		t.Errorf("page %d: %+v, %v, want %+v", n, p, err, want)
	}
}

// wantFault: is it that error, wrapped as one of the page n?
func wantFault(t *testing.T, err error, n int, want api.Errno) {
	t.Helper()
	f, ok := fault.Find(err)
	if !ok || f.Op != "page" || f.At != n || fault.Number(err) != want || !errors.Is(err, want) || len(fault.Ops(err)) != 1 {
		t.Errorf("%v, want page %d: %v", err, n, want)
	}
}
