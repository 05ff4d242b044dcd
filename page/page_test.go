package page_test

import (
	"math"
	"math/rand"
	"slices"
	"strings"
	"testing"

	"posthorse/api"
	"posthorse/page"
)

var (
	key16   = strings.Repeat("k", api.MaxKey)
	key17   = strings.Repeat("k", api.MaxKey+1)
	value24 = strings.Repeat("v", api.MaxValue)
	value25 = strings.Repeat("v", api.MaxValue+1)
)

// rightPages are at the edges of what is right.
func rightPages() []page.Page {
	return []page.Page{
		{},
		leaf("a", ""),
		leaf("\x00", "\x00"),
		leaf("a", "1", "b", "2"),
		leaf("a", "1", "a\x00", "2", "b", ""),
		leaf("\x7f", "1", "\x80", "2", "\xff", "3"),
		leaf(key16, value24),
		leaf("a", value24, key16, ""),
		{Keys: []string{}, Values: []string{}, Kids: []int{}},
		manyLeaf(11),
		inner(1, "a"),
		inner(5, "a"),
		inner(2, "\x00"),
		inner(1, key16[:15], key16),
		manyInner(25),
		{Level: 1, Keys: []string{"", "a", "b"}, Kids: []int{1, 1023, 1}},
	}
}

// wrongPages are just beyond those edges.
func wrongPages() []page.Page {
	return []page.Page{
		manyLeaf(12),
		leaf("", "1"),
		leaf("", "1", "a", "2"),
		leaf(key17, "1"),
		leaf("a", "1", key17, "2"),
		leaf("a", value25),
		leaf("a", "1", "b", value25),
		leaf("a", "1", "a", "2"),
		leaf("b", "1", "a", "2"),
		leaf("a", "1", "c", "2", "b", "3"),
		{Keys: []string{"a"}},
		{Keys: []string{"a", "b"}, Values: []string{"1"}},
		{Keys: []string{"a"}, Values: []string{"1", "2"}},
		{Values: []string{"1"}},
		{Keys: []string{"a"}, Values: []string{"1"}, Kids: []int{1}},
		{Kids: []int{1}},
		{Keys: []string{"", "a"}, Kids: []int{1, 2}},
		inner(6, "a"),
		inner(-1, "a"),
		inner(math.MaxInt, "a"),
		inner(math.MinInt, "a"),
		{Level: 1},
		inner(1),
		manyInner(26),
		{Level: 1, Keys: []string{"a", "b"}, Kids: []int{1, 2}},
		inner(1, ""),
		inner(1, "a", ""),
		inner(1, "a", "a"),
		inner(1, "b", "a"),
		inner(1, key17),
		inner(1, "a", key17),
		{Level: 1, Keys: []string{"", "a"}, Kids: []int{1}},
		{Level: 1, Keys: []string{"", "a"}, Kids: []int{1, 2, 3}},
		{Level: 1, Keys: []string{"", "a"}, Kids: []int{0, 2}},
		{Level: 1, Keys: []string{"", "a"}, Kids: []int{1, 1024}},
		{Level: 1, Keys: []string{"", "a"}, Kids: []int{1, -1}},
		{Level: 1, Keys: []string{"", "a"}, Kids: []int{math.MaxInt, 1}},
		{Level: 1, Keys: []string{"", "a"}, Kids: []int{math.MinInt, 1}},
		{Level: 1, Keys: []string{"", "a"}, Kids: []int{1, 2}, Values: []string{"1"}},
		{Level: 1, Keys: []string{"", "a"}, Kids: []int{1, 2}, Values: []string{"1", "2"}},
		{Level: 1, Keys: []string{"", "a"}, Values: []string{"1", "2"}},
	}
}

// P11.1: Right.
func TestRight(t *testing.T) {
	for _, p := range rightPages() {
		if !page.Right(p) {
			t.Errorf("not right: %+v", p)
		}
	}
	for _, p := range wrongPages() {
		if page.Right(p) {
			t.Errorf("right: %+v", p)
		}
	}
}

// P11.1, P12.3: how many entries a page may have, and is to have.
func TestLimits(t *testing.T) {
	if page.MostLeaf != 11 || page.LeastLeaf != 5 || page.MostInner != 25 || page.LeastInner != 12 {
		t.Error(page.MostLeaf, page.LeastLeaf, page.MostInner, page.LeastInner)
	}
}

// P11.2: of keys that rise, whether the page is right or not.
func TestFindAndChild(t *testing.T) {
	for _, c := range []struct {
		keys  []string
		key   string
		place int
		there bool
		child int
	}{
		{nil, "a", 0, false, 0},
		{nil, "", 0, false, 0},
		{[]string{"b"}, "a", 0, false, 0},
		{[]string{"b"}, "b", 0, true, 0},
		{[]string{"b"}, "c", 1, false, 0},
		{[]string{"b", "d"}, "a", 0, false, 0},
		{[]string{"b", "d"}, "c", 1, false, 0},
		{[]string{"b", "d"}, "d", 1, true, 1},
		{[]string{"b", "d"}, "e", 2, false, 1},
		{[]string{"", "m"}, "", 0, true, 0},
		{[]string{"", "m"}, "a", 1, false, 0},
		{[]string{"", "m"}, "m", 1, true, 1},
		{[]string{"", "m"}, "m\x00", 2, false, 1},
		{[]string{"", "m"}, "lzz", 1, false, 0},
		{[]string{"\x7f", "\x80"}, "\xff", 2, false, 1},
		{[]string{"a", key17}, key17, 1, true, 1},
		{[]string{"a", key17}, key16, 1, false, 0},
	} {
		for level := range 3 {
			p := page.Page{Level: level, Keys: c.keys}
			if i, ok := page.Find(p, c.key); i != c.place || ok != c.there {
				t.Errorf("Find(%+v, %+v) = %d, %v", c.keys, c.key, i, ok)
			}
			if i := page.Child(p, c.key); i != c.child {
				t.Errorf("Child(%+v, %+v) = %d", c.keys, c.key, i)
			}
		}
	}
}

// P11.2, by counting.
func TestFindByChance(t *testing.T) {
	r := rand.New(rand.NewSource(1))
	for range 3000 {
		p := page.Page{Level: r.Intn(3), Keys: risingKeys(r, r.Intn(60))}
		key := anyKey(r)
		below, there, child := 0, false, 0
		for i, k := range p.Keys {
			if k < key {
				below++
			}
			if k == key {
				there = true
			}
			if k <= key {
				child = i
			}
		}
		if i, ok := page.Find(p, key); i != below || ok != there {
			t.Fatalf("Find(%+v, %+v) = %d, %v", p.Keys, key, i, ok)
		}
		if i := page.Child(p, key); i != child {
			t.Fatalf("Child(%+v, %+v) = %d", p.Keys, key, i)
		}
	}
}

// anyKey: a short one, so that others may be the same.
func anyKey(r *rand.Rand) string {
	b := make([]byte, r.Intn(4))
	for i := range b {
		b[i] = "\x00ab\xff"[r.Intn(4)]
	}
	return string(b)
}

// risingKeys: up to n of them.
func risingKeys(r *rand.Rand, n int) []string {
	var l []string
	for range n {
		l = append(l, anyKey(r))
	}
	slices.Sort(l)
	return slices.Compact(l)
}
