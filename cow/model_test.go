package cow_test

import (
	"maps"
	"math/rand"
	"slices"
	"testing"

	"posthorse/api"
	"posthorse/cow"
	"posthorse/look"
	"posthorse/page"
)

// unused numbers of a shelf, in any order.
func unused(r *rand.Rand, s *shelf) []int {
	var l []int
	for n := 1; n < api.MaxPages; n++ {
		if _, ok := s.pages[n]; !ok {
			l = append(l, n)
		}
	}
	r.Shuffle(len(l), func(i, j int) { l[i], l[j] = l[j], l[i] })
	return l
}

// end a change: the shelf has the fresh pages, and not those that were dropped.
func (s *shelf) end(c *cow.Change) {
	for _, f := range c.Fresh() {
		s.pages[f.N] = f.Page
	}
	for _, n := range c.Dropped() {
		delete(s.pages, n)
	}
}

// P13.2, P13.3, P13.4: changes of some calls each, one after the other, against a map.
func TestAsMap(t *testing.T) {
	for seed := range int64(12) {
		r := rand.New(rand.NewSource(seed))
		s, tree := newShelf(), look.Tree{}
		m := map[string]string{}
		keys := 5 + r.Intn(300)
		for round := range 60 {
			free := unused(r, s)
			c := cow.Begin(s, tree, free)
			whole := s.pin()
			// Some rounds make it more, some less.
			puts := 1 + r.Intn(9)
			for range r.Intn(40) {
				k := key(r.Intn(keys))
				_, there := m[k]
				if r.Intn(10) < puts {
					v := value(r.Intn(1000))
					put(t, c, k, v, there)
					m[k] = v
				} else {
					remove(t, c, k, there)
					delete(m, k)
				}
				check(t, s, tree, free, c, m)
			}
			if !whole() {
				t.Fatal(seed, round, "the source's pages were changed")
			}
			s.end(c)
			tree = c.Tree()
			if l, err := look.Pages(s, tree); err != nil || len(l) != len(s.pages) {
				t.Fatal(seed, round, len(l), len(s.pages), err)
			}
			if tree.Height > look.Bound(len(m)) {
				t.Fatal(seed, round, "too high", tree, len(m))
			}
		}
	}
}

// orders in which numbers below n are gone through.
func orders(n int) [][]int {
	up := numbers(0, n)
	down := slices.Clone(up)
	slices.Reverse(down)
	any := rand.New(rand.NewSource(5)).Perm(n)
	return [][]int{up, down, any}
}

// P13.4: a tree that grows high, and is taken down again, in several orders.
func TestUpAndDown(t *testing.T) {
	const n = 2500
	for _, in := range orders(n) {
		for _, out := range orders(n) {
			s := newShelf()
			free := numbers(1, api.MaxPages)
			c := cow.Begin(s, look.Tree{}, free)
			m := map[string]string{}
			for step, i := range in {
				put(t, c, key(i), value(i), false)
				m[key(i)] = value(i)
				if step%97 == 0 {
					check(t, s, look.Tree{}, free, c, m)
				}
			}
			check(t, s, look.Tree{}, free, c, m)
			if in[0] == 0 && in[1] == 1 && c.Tree().Height != 4 {
				t.Error(c.Tree())
			}
			s.end(c)
			began := c.Tree()
			free = unused(rand.New(rand.NewSource(2)), s)
			whole := s.pin()
			c = cow.Begin(s, began, free)
			for step, i := range out {
				remove(t, c, key(i), true)
				delete(m, key(i))
				if step%97 == 0 {
					check(t, s, began, free, c, m)
				}
			}
			if c.Tree() != (look.Tree{}) || len(c.Fresh()) != 0 || len(c.Dropped()) != len(s.pages) || !whole() {
				t.Error(c.Tree(), c.Fresh())
			}
		}
	}
}

// P13.4: a change of a change.
func TestOnTop(t *testing.T) {
	s, tree := high(6, 12, 12)
	c := cow.Begin(s, tree, numbers(200, 300))
	put(t, c, key(3), "x", true)
	one := mapOf(t, c, c.Tree())
	d := cow.Begin(c, c.Tree(), numbers(300, 400))
	for i := range 100 {
		remove(t, d, key(i), true)
	}
	put(t, d, "a", "1", false)
	two := mapOf(t, d, d.Tree())
	if len(two) != 45 || !maps.Equal(mapOf(t, c, c.Tree()), one) || len(mapOf(t, s, tree)) != 144 {
		t.Error(len(two))
	}
	if _, err := look.Pages(d, d.Tree()); err != nil {
		t.Error(err)
	}
}

// P13.2, P13.3: some numbers only: what is refused is refused with ErrSpace, and the source's pages stay.
func TestScarce(t *testing.T) {
	for seed := range int64(200) {
		r := rand.New(rand.NewSource(seed))
		s, tree := high(5+r.Intn(7), 12+r.Intn(14), 12+r.Intn(14))
		whole := s.pin()
		m := mapOf(t, s, tree)
		free := numbers(900, 900+r.Intn(12))
		c := cow.Begin(s, tree, free)
		for {
			k := key(r.Intn(300))
			_, there := m[k]
			var was bool
			var err error
			if r.Intn(2) == 0 {
				was, err = c.Put(k, "x")
				m[k] = "x"
			} else {
				was, err = c.Delete(k)
				delete(m, k)
			}
			if err != nil {
				if err != api.ErrSpace || was {
					t.Fatal(was, err)
				}
				break
			}
			if was != there {
				t.Fatal(was, there)
			}
			check(t, s, tree, free, c, m)
		}
		if !whole() {
			t.Fatal("the source's pages were changed")
		}
	}
}

// fickle is a source that tells any page, each time another one.
type fickle struct{ r *rand.Rand }

func (f fickle) Page(n int) (page.Page, error) {
	r := f.r
	level := r.Intn(4)
	if n > 0 && n < 500 && r.Intn(8) > 0 {
		level = n / 100 // most of the time it fits
	}
	if level == 0 {
		p := leaf(r.Intn(60), r.Intn(12))
		return p, nil
	}
	var kids [][2]int
	from := r.Intn(40)
	for range 1 + r.Intn(25) {
		kids = append(kids, [2]int{100*(level-1) + 1 + r.Intn(4), from})
		from += 1 + r.Intn(4)
	}
	return inner(level, kids...), nil
}

// P1: whatever the source says, and whatever the numbers are, each call ends, and none panics.
func TestFickle(t *testing.T) {
	for seed := range int64(3000) {
		r := rand.New(rand.NewSource(seed))
		height := 1 + r.Intn(4)
		var free []int
		for range r.Intn(40) {
			free = append(free, r.Intn(500)-5)
		}
		c := cow.Begin(fickle{r}, look.Tree{Root: 100*(height-1) + 1, Height: height}, free)
		for range 40 {
			k := key(r.Intn(80))
			if r.Intn(2) == 0 {
				c.Put(k, "x")
			} else {
				c.Delete(k)
			}
		}
		c.Fresh()
		c.Dropped()
	}
}
