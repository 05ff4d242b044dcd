package page_test

import (
	"slices"
	"strings"

	"posthorse/page"
)

// leaf of entries: a key, a value, and so on.
func leaf(l ...string) page.Page {
	var p page.Page
	for i := 0; i < len(l); i += 2 {
		p.Keys = append(p.Keys, l[i])
		p.Values = append(p.Values, l[i+1])
	}
	return p
}

// inner page of a level, with an empty key first, and the kids 1, 2 and so on.
func inner(level int, keys ...string) page.Page {
	p := page.Page{Level: level, Keys: append([]string{""}, keys...)}
	for i := range p.Keys {
		p.Kids = append(p.Kids, i+1)
	}
	return p
}

// names: n keys that rise, of three bytes each.
func names(n int) []string {
	var l []string
	for i := range n {
		l = append(l, "k"+string([]byte{byte('a' + i/26), byte('a' + i%26)}))
	}
	return l
}

// manyLeaf: a leaf of n entries.
func manyLeaf(n int) page.Page {
	var p page.Page
	for _, k := range names(n) {
		p.Keys = append(p.Keys, k)
		p.Values = append(p.Values, strings.ToUpper(k))
	}
	return p
}

// manyInner: an inner page of n entries.
func manyInner(n int) page.Page { return inner(1, names(n-1)...) }

// copyOf a page: the same in memory of its own.
func copyOf(p page.Page) page.Page {
	return page.Page{
		Level:  p.Level,
		Keys:   slices.Clone(p.Keys),
		Values: slices.Clone(p.Values),
		Kids:   slices.Clone(p.Kids),
	}
}

func same(a, b page.Page) bool {
	return a.Level == b.Level && slices.Equal(a.Keys, b.Keys) && slices.Equal(a.Values, b.Values) && slices.Equal(a.Kids, b.Kids)
}

// roomy: the page with room behind its lists, and a look whether the lists and that room are as they were.
func roomy(p page.Page) (page.Page, func() bool) {
	keys := append(slices.Clone(p.Keys), "room", "room", "room")
	values := append(slices.Clone(p.Values), "room", "room", "room")
	kids := append(slices.Clone(p.Kids), 777, 777, 777)
	k, v, n := slices.Clone(keys), slices.Clone(values), slices.Clone(kids)
	q := page.Page{Level: p.Level, Keys: keys[:len(p.Keys)], Values: values[:len(p.Values)], Kids: kids[:len(p.Kids)]}
	return q, func() bool {
		return slices.Equal(keys, k) && slices.Equal(values, v) && slices.Equal(kids, n)
	}
}

// spoil all that can be reached by a page's lists.
func spoil(p page.Page) {
	for i := range p.Keys[:cap(p.Keys)] {
		p.Keys[:cap(p.Keys)][i] = "spoilt"
	}
	for i := range p.Values[:cap(p.Values)] {
		p.Values[:cap(p.Values)][i] = "spoilt"
	}
	for i := range p.Kids[:cap(p.Kids)] {
		p.Kids[:cap(p.Kids)][i] = -5
	}
}
