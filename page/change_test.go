package page_test

import (
	"maps"
	"math"
	"math/rand"
	"slices"
	"strconv"
	"testing"

	"posthorse/page"
)

// P11.3: With.
func TestWith(t *testing.T) {
	for _, c := range []struct {
		p          page.Page
		key, value string
		want       page.Page
	}{
		{page.Page{}, "a", "1", leaf("a", "1")},
		{leaf("b", "2"), "a", "1", leaf("a", "1", "b", "2")},
		{leaf("b", "2"), "c", "3", leaf("b", "2", "c", "3")},
		{leaf("a", "1", "c", "3"), "b", "2", leaf("a", "1", "b", "2", "c", "3")},
		{leaf("a", "1", "c", "3"), "a", "9", leaf("a", "9", "c", "3")},
		{leaf("a", "1", "c", "3"), "c", "", leaf("a", "1", "c", "")},
		{leaf("a", "1"), "", "0", leaf("", "0", "a", "1")},
		{leaf("a", "1"), key17, value25, leaf("a", "1", key17, value25)},
	} {
		p, untouched := roomy(c.p)
		q := page.With(p, c.key, c.value)
		if !same(q, c.want) {
			t.Errorf("With(%+v, %+v, %+v) = %+v", c.p, c.key, c.value, q)
		}
		spoil(q)
		if !untouched() {
			t.Errorf("With(%+v, %+v, %+v) changed what was handed in", c.p, c.key, c.value)
		}
	}
	if p := page.With(manyLeaf(11), "zz", ""); len(p.Keys) != 12 || page.Right(p) {
		t.Errorf("one too many: %+v", p)
	}
}

// P11.3: Without.
func TestWithout(t *testing.T) {
	l, in := leaf("a", "1", "b", "2", "c", "3"), inner(2, "b", "c")
	for _, c := range []struct {
		p    page.Page
		i    int
		want page.Page
	}{
		{l, 0, leaf("b", "2", "c", "3")},
		{l, 1, leaf("a", "1", "c", "3")},
		{l, 2, leaf("a", "1", "b", "2")},
		{l, 3, l},
		{l, -1, l},
		{l, math.MaxInt, l},
		{l, math.MinInt, l},
		{leaf("a", "1"), 0, page.Page{}},
		{page.Page{}, 0, page.Page{}},
		{page.Page{Level: 3}, 0, page.Page{Level: 3}},
		{in, 0, page.Page{Level: 2, Keys: []string{"b", "c"}, Kids: []int{2, 3}}},
		{in, 1, page.Page{Level: 2, Keys: []string{"", "c"}, Kids: []int{1, 3}}},
		{in, 2, page.Page{Level: 2, Keys: []string{"", "b"}, Kids: []int{1, 2}}},
		{in, 3, in},
	} {
		p, untouched := roomy(c.p)
		q := page.Without(p, c.i)
		if !same(q, c.want) {
			t.Errorf("Without(%+v, %d) = %+v", c.p, c.i, q)
		}
		spoil(q)
		if !untouched() {
			t.Errorf("Without(%+v, %d) changed what was handed in", c.p, c.i)
		}
	}
}

// P11.3: Split.
func TestSplit(t *testing.T) {
	for _, c := range []struct{ p, a, b page.Page }{
		{page.Page{}, page.Page{}, page.Page{}},
		{leaf("a", "1"), leaf("a", "1"), page.Page{}},
		{leaf("a", "1", "b", "2"), leaf("a", "1"), leaf("b", "2")},
		{leaf("a", "1", "b", "2", "c", "3"), leaf("a", "1", "b", "2"), leaf("c", "3")},
		{page.Page{Level: 4}, page.Page{Level: 4}, page.Page{Level: 4}},
		{inner(2), inner(2), page.Page{Level: 2}},
		{inner(1, "b"), inner(1), page.Page{Level: 1, Keys: []string{""}, Kids: []int{2}}},
		{inner(2, "b", "c"), inner(2, "b"), page.Page{Level: 2, Keys: []string{""}, Kids: []int{3}}},
		{inner(3, "b", "c", "d"), inner(3, "b"), page.Page{Level: 3, Keys: []string{"", "d"}, Kids: []int{3, 4}}},
		{page.Page{Level: 1, Keys: []string{"a", "b"}, Kids: []int{7, 8}}, page.Page{Level: 1, Keys: []string{"a"}, Kids: []int{7}}, page.Page{Level: 1, Keys: []string{""}, Kids: []int{8}}},
	} {
		p, untouched := roomy(c.p)
		a, b := page.Split(p)
		if !same(a, c.a) || !same(b, c.b) {
			t.Errorf("Split(%+v) = %+v, %+v", c.p, a, b)
		}
		spoil(a)
		if !same(b, c.b) {
			t.Errorf("Split(%+v): the parts share memory", c.p)
		}
		spoil(b)
		if !untouched() {
			t.Errorf("Split(%+v) changed what was handed in", c.p)
		}
	}
	for n := range 40 {
		a, b := page.Split(manyLeaf(n))
		if len(a.Keys) != n-n/2 || len(b.Keys) != n/2 || !same(page.Join(a, b), manyLeaf(n)) {
			t.Errorf("Split of %d: %+v, %+v", n, a, b)
		}
	}
	a, b := page.Split(manyInner(26))
	if !page.Right(a) || !page.Right(b) || len(a.Keys) != 13 {
		t.Errorf("Split of 26: %+v, %+v", a, b)
	}
}

// P11.3: Join.
func TestJoin(t *testing.T) {
	for _, c := range []struct{ a, b, want page.Page }{
		{page.Page{}, page.Page{}, page.Page{}},
		{leaf("a", "1"), page.Page{}, leaf("a", "1")},
		{page.Page{}, leaf("a", "1"), leaf("a", "1")},
		{leaf("a", "1", "b", "2"), leaf("c", "3"), leaf("a", "1", "b", "2", "c", "3")},
		{leaf("b", "1"), leaf("a", "2"), leaf("b", "1", "a", "2")},
		{
			inner(2, "b"),
			page.Page{Level: 2, Keys: []string{"c", "d"}, Kids: []int{8, 9}},
			page.Page{Level: 2, Keys: []string{"", "b", "c", "d"}, Kids: []int{1, 2, 8, 9}},
		},
	} {
		a, okA := roomy(c.a)
		b, okB := roomy(c.b)
		q := page.Join(a, b)
		if !same(q, c.want) {
			t.Errorf("Join(%+v, %+v) = %+v", c.a, c.b, q)
		}
		spoil(q)
		if !okA() || !okB() {
			t.Errorf("Join(%+v, %+v) changed what was handed in", c.a, c.b)
		}
	}
}

// P11.3: a leaf against a map.
func TestLeafAsMap(t *testing.T) {
	r := rand.New(rand.NewSource(3))
	var p page.Page
	m := map[string]string{}
	for step := range 5000 {
		key := strconv.Itoa(r.Intn(30))
		if r.Intn(2) == 0 {
			value := strconv.Itoa(step)
			p, m[key] = page.With(p, key, value), value
		} else if i, ok := page.Find(p, key); ok {
			p = page.Without(p, i)
			delete(m, key)
		}
		if r.Intn(50) == 0 {
			p = page.Join(page.Split(p))
		}
		keys := slices.Sorted(maps.Keys(m))
		if !slices.Equal(keys, p.Keys) || len(p.Values) != len(keys) || len(p.Kids) != 0 || p.Level != 0 {
			t.Fatalf("%+v against %+v", p, m)
		}
		for i, k := range keys {
			if p.Values[i] != m[k] {
				t.Fatalf("%+v against %+v", p, m)
			}
		}
	}
}

// P1: pages whose lists don't agree make no call panic.
func TestCrooked(t *testing.T) {
	for _, p := range wrongPages() {
		page.With(p, "a", "1")
		page.With(p, "zzz", "1")
		page.Find(p, "a")
		page.Child(p, "a")
		for i := -1; i < 4; i++ {
			page.Without(p, i)
		}
		page.Split(p)
		for _, q := range wrongPages() {
			page.Join(p, q)
		}
	}
}
