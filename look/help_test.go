package look_test

import (
	"errors"
	"slices"
	"strconv"
	"testing"

	"posthorse/api"
	"posthorse/fault"
	"posthorse/look"
	"posthorse/page"
)

// shelf is a source that writes down what it is asked.
type shelf struct {
	pages map[int]page.Page
	wrong map[int]error
	asked []int
}

func (s *shelf) Page(n int) (page.Page, error) {
	s.asked = append(s.asked, n)
	p, ok := s.pages[n]
	if !ok {
		return page.Page{}, api.ErrNone
	}
	// A source may tell a page beside an error: it counts for nothing.
	return p, s.wrong[n]
}

// key of a number: such keys rise as their numbers do.
func key(i int) string { return "k" + strconv.Itoa(10000+i) }

// entries from one number on, below another one.
func entries(from, to int) []look.Entry {
	var l []look.Entry
	for i := from; i < to; i++ {
		l = append(l, look.Entry{Key: key(i), Value: "v" + strconv.Itoa(i)})
	}
	return l
}

// leaf of some entries.
func leaf(l []look.Entry) page.Page {
	var p page.Page
	for _, e := range l {
		p.Keys = append(p.Keys, e.Key)
		p.Values = append(p.Values, e.Value)
	}
	return p
}

// built: a right tree of that height in a new shelf, with all its entries. Each inner page has so many kids (the root may have another number of them), each leaf so many entries. Numbers are given away by jumps, so that they don't rise.
func built(height, root, kids, each int) (*shelf, look.Tree, []look.Entry) {
	s := &shelf{pages: map[int]page.Page{}, wrong: map[int]error{}}
	next, keys := 0, 0
	var make func(level, kids int) (int, string)
	below := kids
	make = func(level, kids int) (int, string) {
		next = (next + 377) % 1021
		n := next
		if level == 0 {
			s.pages[n] = leaf(entries(keys, keys+each))
			keys += each
			return n, key(keys - each)
		}
		p := page.Page{Level: level}
		first := ""
		for i := range kids {
			kid, least := make(level-1, below)
			if i == 0 {
				first, least = least, ""
			}
			p.Keys, p.Kids = append(p.Keys, least), append(p.Kids, kid)
		}
		s.pages[n] = p
		return n, first
	}
	n, _ := make(height-1, root)
	return s, look.Tree{Root: n, Height: height}, entries(0, keys)
}

// order: the pages of a tree, each ahead of those below it.
func order(s *shelf, n int) []int {
	l := []int{n}
	for _, kid := range s.pages[n].Kids {
		l = append(l, order(s, kid)...)
	}
	return l
}

// path from a tree's root to the page n.
func path(s *shelf, from, n int) []int {
	if from == n {
		return []int{n}
	}
	for _, kid := range s.pages[from].Kids {
		if l := path(s, kid, n); l != nil {
			return append([]int{from}, l...)
		}
	}
	return nil
}

// put another page in the place of one, made of that by a change; what is answered lays the former one there again.
func (s *shelf) put(n int, change func(p *page.Page)) func() {
	was := s.pages[n]
	p := page.Page{Level: was.Level, Keys: slices.Clone(was.Keys), Values: slices.Clone(was.Values), Kids: slices.Clone(was.Kids)}
	change(&p)
	s.pages[n] = p
	return func() { s.pages[n] = was }
}

// wantFault: is it that error, wrapped as one of the page n?
func wantFault(t *testing.T, err error, n int, want api.Errno) {
	t.Helper()
	f, ok := fault.Find(err)
	if !ok || f.Op != "page" || f.At != n || fault.Number(err) != want || !errors.Is(err, want) || len(fault.Ops(err)) != 1 {
		t.Errorf("%v, want page %d: %v", err, n, want)
	}
}
