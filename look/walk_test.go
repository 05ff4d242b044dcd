package look_test

import (
	"math/rand"
	"slices"
	"testing"

	"posthorse/api"
	"posthorse/look"
	"posthorse/page"
)

// within: the entries that a scan is to tell.
func within(all []look.Entry, from, to string) []look.Entry {
	var l []look.Entry
	for _, e := range all {
		if e.Key >= from && (to == "" || e.Key < to) {
			l = append(l, e)
		}
	}
	return l
}

// mayHave: the pages that may have keys from one on, up to another one, where the page n has what is between lo and hi.
func mayHave(s *shelf, n int, lo, hi, from, to string) []int {
	if to != "" && (lo >= to || from >= to) || hi != "" && hi <= from {
		return nil
	}
	l := []int{n}
	p := s.pages[n]
	for i, kid := range p.Kids {
		a, b := lo, hi
		if i > 0 {
			a = p.Keys[i]
		}
		if i+1 < len(p.Keys) {
			b = p.Keys[i+1]
		}
		l = append(l, mayHave(s, kid, a, b, from, to)...)
	}
	return l
}

// checkScan against all entries: what is told, and which pages are asked.
func checkScan(t *testing.T, s *shelf, tree look.Tree, all []look.Entry, from, to string) {
	t.Helper()
	s.asked = nil
	l, err := look.Scan(s, tree, from, to)
	if err != nil || !slices.Equal(l, within(all, from, to)) {
		t.Fatalf("Scan(%q, %q) = %v, %v", from, to, l, err)
	}
	if want := mayHave(s, tree.Root, "", "", from, to); !slices.Equal(s.asked, want) {
		t.Fatalf("Scan(%q, %q) asked %v, want %v", from, to, s.asked, want)
	}
}

// P12.2: Scan.
func TestScan(t *testing.T) {
	r := rand.New(rand.NewSource(1))
	for _, c := range trees() {
		s, tree, all := built(c[0], c[1], c[2], c[3])
		checkScan(t, s, tree, all, "", "")
		checkScan(t, s, tree, all, "a", "")
		checkScan(t, s, tree, all, "z", "")
		checkScan(t, s, tree, all, "", "a")
		checkScan(t, s, tree, all, "", "z")
		for range 300 {
			from, to := key(r.Intn(len(all)+2)-1), key(r.Intn(len(all)+2)-1)
			if r.Intn(3) == 0 {
				from += "\x00"
			}
			if r.Intn(3) == 0 {
				to += "\x00"
			}
			checkScan(t, s, tree, all, from, to)
			checkScan(t, s, tree, all, from, "")
			checkScan(t, s, tree, all, "", to)
		}
	}
}

// P12.2: at the edge of two leaves just one of them is asked.
func TestScanEdge(t *testing.T) {
	s := &shelf{pages: map[int]page.Page{
		1: leaf(entries(0, 6)),
		2: leaf(entries(6, 12)),
		3: {Level: 1, Keys: []string{"", key(6)}, Kids: []int{1, 2}},
	}}
	tree := look.Tree{Root: 3, Height: 2}
	for _, c := range []struct {
		from, to string
		asked    []int
		n        int
	}{
		{"", key(6), []int{3, 1}, 6},
		{key(6), "", []int{3, 2}, 6},
		{key(6), key(7), []int{3, 2}, 1},
		{key(5), key(6), []int{3, 1}, 1},
		{key(5), key(6) + "\x00", []int{3, 1, 2}, 2},
		{key(5) + "\x00", key(6), []int{3, 1}, 0},
		{key(6), key(6), nil, 0},
		{key(7), key(6), nil, 0},
		{"z", "a", nil, 0},
	} {
		s.asked = nil
		l, err := look.Scan(s, tree, c.from, c.to)
		if err != nil || len(l) != c.n || !slices.Equal(s.asked, c.asked) {
			t.Errorf("Scan(%q, %q) = %v, %v: asked %v", c.from, c.to, l, err, s.asked)
		}
	}
}

// P12.1: an error of a page that is asked ends a Scan and a Pages; of one that isn't it is none.
func TestWalkFault(t *testing.T) {
	s, tree, all := built(3, 2, 12, 5)
	first := all[0]
	for _, n := range order(s, tree.Root) {
		check := func(want api.Errno) {
			t.Helper()
			l, err := look.Scan(s, tree, "", "")
			wantFault(t, err, n, want)
			pages, err := look.Pages(s, tree)
			wantFault(t, err, n, want)
			if len(l) != 0 || len(pages) != 0 {
				t.Error("beside an error:", l, pages)
			}
			if slices.Contains(mayHave(s, tree.Root, "", "", "", first.Key+"\x00"), n) {
				return
			}
			if l, err := look.Scan(s, tree, "", first.Key+"\x00"); err != nil || !slices.Equal(l, all[:1]) {
				t.Error(l, err)
			}
		}
		s.wrong[n] = api.ErrPower
		check(api.ErrPower)
		delete(s.wrong, n)
		for w := range 5 {
			back := s.put(n, func(p *page.Page) { spoilt(p, w) })
			check(api.ErrCorrupt)
			back()
		}
	}
}

// P12.3: Pages of right trees, each page ahead of those below it.
func TestPages(t *testing.T) {
	for _, c := range trees() {
		s, tree, _ := built(c[0], c[1], c[2], c[3])
		l, err := look.Pages(s, tree)
		if err != nil || !slices.Equal(l, order(s, tree.Root)) || !slices.Equal(l, s.asked) {
			t.Errorf("%v: %v, %v", c, l, err)
		}
	}
	s, tree, _ := built(3, 2, 12, 5)
	l, err := look.Pages(s, tree)
	root := s.pages[tree.Root]
	if err != nil || len(l) != 27 || l[0] != tree.Root || l[1] != root.Kids[0] || l[14] != root.Kids[1] || l[2] != s.pages[root.Kids[0]].Kids[0] {
		t.Error(l, err)
	}
}

// wantCorrupt: Pages finds that page wrong, which Scan doesn't care for.
func wantCorrupt(t *testing.T, s *shelf, tree look.Tree, n int) {
	t.Helper()
	l, err := look.Pages(s, tree)
	wantFault(t, err, n, api.ErrCorrupt)
	if len(l) != 0 {
		t.Error("beside an error:", l)
	}
	if _, err := look.Scan(s, tree, "", ""); err != nil {
		t.Error("Scan:", err)
	}
}

// wantRight: Pages finds nothing wrong.
func wantRight(t *testing.T, s *shelf, tree look.Tree) {
	t.Helper()
	if _, err := look.Pages(s, tree); err != nil {
		t.Error(err)
	}
}

// P12.3: a page that comes twice.
func TestTwice(t *testing.T) {
	s, tree, _ := built(3, 2, 12, 5)
	root := s.pages[tree.Root]
	one, two := s.pages[root.Kids[0]], s.pages[root.Kids[1]]
	for _, c := range []struct{ in, i, n int }{
		{root.Kids[0], 1, one.Kids[0]},
		{root.Kids[0], 11, one.Kids[10]},
		{root.Kids[1], 0, one.Kids[0]},
		{root.Kids[1], 5, one.Kids[11]},
		{root.Kids[1], 11, two.Kids[0]},
		{tree.Root, 1, root.Kids[0]},
	} {
		back := s.put(c.in, func(p *page.Page) { p.Kids[c.i] = c.n })
		wantCorrupt(t, s, tree, c.n)
		back()
	}
	// Where it is to be of another level it is no page of that one.
	back := s.put(root.Kids[1], func(p *page.Page) { p.Kids[3] = tree.Root })
	_, err := look.Pages(s, tree)
	wantFault(t, err, tree.Root, api.ErrCorrupt)
	back()
	wantRight(t, s, tree)
}

// shifty is a source that tells another leaf whenever it is asked for one.
type shifty struct {
	top  page.Page
	next int
}

func (s *shifty) Page(n int) (page.Page, error) {
	if n == 1 {
		return s.top, nil
	}
	s.next += 5
	return leaf(entries(s.next-5, s.next)), nil
}

// P12.3: a page comes twice by its number, whatever the source says of it.
func TestTwiceShifty(t *testing.T) {
	tree := look.Tree{Root: 1, Height: 2}
	s := &shifty{top: page.Page{Level: 1, Keys: []string{"", key(5), key(10)}, Kids: []int{2, 3, 4}}}
	if l, err := look.Pages(s, tree); err != nil || !slices.Equal(l, []int{1, 2, 3, 4}) {
		t.Error(l, err)
	}
	s = &shifty{top: page.Page{Level: 1, Keys: []string{"", key(5), key(10)}, Kids: []int{2, 3, 2}}}
	_, err := look.Pages(s, tree)
	wantFault(t, err, 2, api.ErrCorrupt)
}

// P12.3: keys beyond what the pages above say.
func TestBounds(t *testing.T) {
	s, tree, _ := built(3, 3, 12, 5)
	root := s.pages[tree.Root]
	in := root.Kids[1] // it has the keys 60 to 119
	kids := s.pages[in].Kids
	for _, c := range []struct {
		n     int
		k     int
		key   string
		right bool
	}{
		{kids[1], 0, key(65), true},
		{kids[1], 0, key(64) + "\x00", false}, // the entry is between two leaves: below the key ahead of the second
		{kids[1], 4, key(69) + "\x00", true},
		{kids[1], 4, key(70), false},
		{kids[1], 4, key(71), false},
		{kids[0], 0, key(60), true},
		{kids[0], 0, key(59) + "\x00", false}, // by the root's key
		{kids[0], 0, key(1), false},
		{kids[11], 4, key(119) + "\x00", true},
		{kids[11], 4, key(120), false}, // by the root's next key
		{kids[11], 4, "z", false},
		{in, 1, key(64) + "\x00", true},
		{in, 1, key(59), false},
		{in, 1, key(59) + "\x00", false},
		{in, 11, key(119) + "\x00", false}, // within, but its kid has less then
		{in, 11, key(120), false},
		{in, 11, "z", false},
	} {
		back := s.put(c.n, func(p *page.Page) { p.Keys[c.k] = c.key })
		switch {
		case c.right:
			wantRight(t, s, tree)
		case c.key == key(119)+"\x00" && c.n == in:
			wantCorrupt(t, s, tree, kids[11])
		default:
			wantCorrupt(t, s, tree, c.n)
		}
		back()
	}
	// The first and the last leaf of all have one bound only.
	first, last := s.pages[root.Kids[0]].Kids[0], s.pages[root.Kids[2]].Kids[11]
	s.put(first, func(p *page.Page) { p.Keys[0] = "\x00" })
	s.put(last, func(p *page.Page) { p.Keys[4] = "\xff\xff" })
	wantRight(t, s, tree)
	s.put(first, func(p *page.Page) { p.Keys[4] = key(5) })
	wantCorrupt(t, s, tree, first)
}

// P12.3: an inner page's second key may be the bound itself, but then its first kid has nothing.
func TestBoundOfInner(t *testing.T) {
	s, tree, _ := built(3, 2, 12, 5)
	in := s.pages[tree.Root].Kids[1]
	s.put(in, func(p *page.Page) { p.Keys[1] = key(60) })
	wantCorrupt(t, s, tree, s.pages[in].Kids[0])
}

// P12.3: pages with less entries than they must have.
func TestFew(t *testing.T) {
	s, tree, _ := built(3, 2, 12, 5)
	root := s.pages[tree.Root]
	in := root.Kids[1]
	low := s.pages[in].Kids[7]
	fewer := func(p *page.Page) { *p = page.Without(*p, len(p.Keys)-1) }
	back := s.put(in, fewer)
	wantCorrupt(t, s, tree, in)
	back()
	back = s.put(low, fewer)
	wantCorrupt(t, s, tree, low)
	back()
	back = s.put(low, func(p *page.Page) { *p = page.Page{} })
	wantCorrupt(t, s, tree, low)
	back()
	wantRight(t, s, tree)
	// A tree of two levels may have less of a root than of another page.
	wantRight(t, s, look.Tree{Root: in, Height: 2})
	s.put(in, fewer)
	wantRight(t, s, look.Tree{Root: in, Height: 2})
}

// P12.3: of several that are wrong the first one on the way is told.
func TestFirstWrong(t *testing.T) {
	s, tree, _ := built(3, 2, 12, 5)
	l := order(s, tree.Root)
	for i := len(l) - 1; i >= 0; i-- {
		s.wrong[l[i]] = api.ErrSum
		_, err := look.Pages(s, tree)
		wantFault(t, err, l[i], api.ErrSum)
		_, err = look.Scan(s, tree, "", "")
		wantFault(t, err, l[i], api.ErrSum)
	}
}

// P1: a tree whose pages go round in a ring, or are all the same, comes to an end.
func TestRing(t *testing.T) {
	s := &shelf{pages: map[int]page.Page{}}
	for level := 1; level < 6; level++ {
		s.pages[level] = page.Page{Level: level, Keys: []string{"", "a"}, Kids: []int{5, 5}}
	}
	tree := look.Tree{Root: 5, Height: 6}
	if _, _, n, err := look.Get(s, tree, "a"); n != 2 || err == nil {
		t.Error(n, err)
	}
	_, err := look.Scan(s, tree, "", "")
	wantFault(t, err, 5, api.ErrCorrupt)
	_, err = look.Pages(s, tree)
	wantFault(t, err, 5, api.ErrCorrupt)
}

// Answers are made anew, and what the source tells stays as it is.
func TestAnew(t *testing.T) {
	s, tree, all := built(2, 3, 0, 5)
	l, err := look.Scan(s, tree, "", "")
	if err != nil {
		t.Fatal(err)
	}
	pages, err := look.Pages(s, tree)
	if err != nil {
		t.Fatal(err)
	}
	clear(l[:cap(l)])
	clear(pages[:cap(pages)])
	checkScan(t, s, tree, all, "", "")
	wantRight(t, s, tree)
}
