package look_test

import (
	"math"
	"slices"
	"testing"

	"posthorse/api"
	"posthorse/look"
	"posthorse/page"
)

// P12.1: a source or a tree that may not be.
func TestArg(t *testing.T) {
	s, right, _ := built(2, 2, 0, 5)
	for _, c := range []struct {
		s look.Source
		t look.Tree
	}{
		{nil, right},
		{nil, look.Tree{}},
		{s, look.Tree{Root: right.Root, Height: -1}},
		{s, look.Tree{Root: right.Root, Height: 7}},
		{s, look.Tree{Root: right.Root, Height: math.MaxInt}},
		{s, look.Tree{Root: right.Root, Height: math.MinInt}},
		{s, look.Tree{Root: right.Root}},
		{s, look.Tree{Root: -1}},
		{s, look.Tree{Height: 1}},
		{s, look.Tree{Height: 6}},
		{s, look.Tree{Height: -1}},
	} {
		if v, ok, n, err := look.Get(c.s, c.t, key(0)); err != api.ErrArg || v != "" || ok || n != 0 {
			t.Errorf("Get of %v: %q, %v, %d, %v", c.t, v, ok, n, err)
		}
		if l, err := look.Scan(c.s, c.t, "", ""); err != api.ErrArg || len(l) != 0 {
			t.Errorf("Scan of %v: %v, %v", c.t, l, err)
		}
		if l, err := look.Scan(c.s, c.t, "b", "a"); err != api.ErrArg || len(l) != 0 {
			t.Errorf("Scan of %v: %v, %v", c.t, l, err)
		}
		if l, err := look.Pages(c.s, c.t); err != api.ErrArg || len(l) != 0 {
			t.Errorf("Pages of %v: %v, %v", c.t, l, err)
		}
	}
	if len(s.asked) != 0 {
		t.Error("asked", s.asked)
	}
}

// P12.1, P12.2: an empty tree asks for nothing.
func TestEmpty(t *testing.T) {
	s := &shelf{}
	if v, ok, n, err := look.Get(s, look.Tree{}, "a"); v != "" || ok || n != 0 || err != nil {
		t.Error(v, ok, n, err)
	}
	if l, err := look.Scan(s, look.Tree{}, "", ""); len(l) != 0 || err != nil {
		t.Error(l, err)
	}
	if l, err := look.Pages(s, look.Tree{}); len(l) != 0 || err != nil {
		t.Error(l, err)
	}
	if len(s.asked) != 0 {
		t.Error("asked", s.asked)
	}
}

// P12.1: any number may be a root's: the source tells what it has.
func TestAnyRoot(t *testing.T) {
	for _, n := range []int{-1, 1024, math.MaxInt, math.MinInt} {
		s := &shelf{pages: map[int]page.Page{n: leaf(entries(0, 3))}}
		tree := look.Tree{Root: n, Height: 1}
		if v, ok, asked, err := look.Get(s, tree, key(1)); v != "v1" || !ok || asked != 1 || err != nil {
			t.Error(v, ok, asked, err)
		}
		if l, err := look.Pages(s, tree); !slices.Equal(l, []int{n}) || err != nil {
			t.Error(l, err)
		}
		_, err := look.Pages(&shelf{}, tree)
		wantFault(t, err, n, api.ErrNone)
	}
}

// trees of all heights: the highest are wide where they must be, so that they are right.
func trees() [][4]int {
	return [][4]int{{1, 0, 0, 0}, {1, 0, 0, 1}, {1, 0, 0, 11}, {2, 2, 0, 5}, {2, 25, 0, 11}, {3, 2, 12, 5}, {3, 5, 25, 11}, {4, 2, 12, 5}}
}

// P12.2: Get of all that there is, and of what is between.
func TestGet(t *testing.T) {
	for _, c := range trees() {
		s, tree, all := built(c[0], c[1], c[2], c[3])
		for _, e := range all {
			s.asked = nil
			v, ok, n, err := look.Get(s, tree, e.Key)
			if v != e.Value || !ok || n != tree.Height || err != nil || len(s.asked) != n {
				t.Errorf("%v: Get(%q) = %q, %v, %d, %v", c, e.Key, v, ok, n, err)
			}
			for _, k := range []string{e.Key + "\x00", e.Key[:5], ""} {
				s.asked = nil
				v, ok, n, err = look.Get(s, tree, k)
				if v != "" || ok || n != tree.Height || err != nil || len(s.asked) != n {
					t.Errorf("%v: Get(%q) = %q, %v, %d, %v", c, k, v, ok, n, err)
				}
			}
		}
	}
}

// P12.2: the way goes by Child, always.
func TestGetWay(t *testing.T) {
	s, tree, all := built(3, 3, 12, 5)
	for i, e := range all {
		var want []int
		n := tree.Root
		for range tree.Height {
			want = append(want, n)
			if p := s.pages[n]; p.Level > 0 {
				n = p.Kids[page.Child(p, e.Key)]
			}
		}
		s.asked = nil
		if _, ok, _, _ := look.Get(s, tree, e.Key); !ok || !slices.Equal(s.asked, want) {
			t.Fatal(i, s.asked, want)
		}
	}
}

// spoilt: a page that isn't right, or not of that level, each another way.
func spoilt(p *page.Page, way int) {
	switch way {
	case 0:
		p.Keys[1] = p.Keys[0]
	case 1:
		p.Level++
	case 2:
		p.Level--
	case 3: // right, but of another level
		*p = page.Page{Level: p.Level + 1, Keys: []string{"", "a"}, Kids: []int{1, 2}}
	case 4: // right, but no leaf
		if p.Level == 0 {
			*p = page.Page{Level: 5, Keys: []string{"", "a"}, Kids: []int{1, 2}}
		} else {
			*p = page.Page{}
		}
	}
}

// P12.1, P12.2: an error of a page on the way ends a Get there.
func TestGetFault(t *testing.T) {
	s, tree, _ := built(3, 2, 12, 5)
	for _, n := range order(s, tree.Root) {
		way := path(s, tree.Root, n)
		low := n
		for s.pages[low].Level > 0 {
			low = s.pages[low].Kids[0]
		}
		k := s.pages[low].Keys[2]
		check := func(want api.Errno) {
			t.Helper()
			s.asked = nil
			v, ok, asked, err := look.Get(s, tree, k)
			wantFault(t, err, n, want)
			if v != "" || ok || asked != len(way) || !slices.Equal(s.asked, way) {
				t.Errorf("%q, %v, %d: asked %v, want %v", v, ok, asked, s.asked, way)
			}
		}
		s.wrong[n] = api.ErrSum
		check(api.ErrSum)
		delete(s.wrong, n)
		for w := range 5 {
			back := s.put(n, func(p *page.Page) { spoilt(p, w) })
			check(api.ErrCorrupt)
			back()
		}
		if v, ok, _, err := look.Get(s, tree, k); v == "" || !ok || err != nil {
			t.Fatal("not laid back", v, ok, err)
		}
	}
}

// P12.4: Bound.
func TestBound(t *testing.T) {
	for _, c := range [][2]int{
		{math.MinInt, 0}, {-1, 0}, {0, 0}, {1, 1}, {9, 1}, {10, 2}, {119, 2}, {120, 3}, {1439, 3}, {1440, 4},
		{17279, 4}, {17280, 5}, {207359, 5}, {207360, 6}, {2488319, 6}, {2488320, 6}, {math.MaxInt, 6},
	} {
		if h := look.Bound(c[0]); h != c[1] {
			t.Errorf("Bound(%d) = %d, want %d", c[0], h, c[1])
		}
	}
}

// P12.4: the least tree of a height has just as many keys as the bound asks for.
func TestBoundIsMet(t *testing.T) {
	for _, c := range [][4]int{{1, 0, 0, 1}, {2, 2, 0, 5}, {3, 2, 12, 5}, {4, 2, 12, 5}} {
		s, tree, all := built(c[0], c[1], c[2], c[3])
		if l, err := look.Pages(s, tree); err != nil || len(l) != len(s.pages) {
			t.Error(c, l, err)
		}
		if look.Bound(len(all)) != tree.Height || look.Bound(len(all)-1) != tree.Height-1 {
			t.Error(c, len(all), look.Bound(len(all)))
		}
	}
}
