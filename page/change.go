package page

import "slices"

// With an entry of a leaf: what it had.
func With(p Page, key, value string) Page {
	i, there := Find(p, key)
	behind := i
	if there {
		behind++
	}
	entry := Page{Keys: []string{key}, Values: []string{value}}
	return Join(Join(part(p, 0, i), entry), part(p, behind, len(p.Keys)))
}

// Without an entry.
func Without(p Page, i int) Page {
	if i < 0 || i >= len(p.Keys) {
		return Join(p, Page{})
	}
	return Join(part(p, 0, i), part(p, i+1, len(p.Keys)))
}

// Split a page into two.
func Split(p Page) (Page, Page) {
	n := len(p.Keys)
	half := (n + 1) / 2
	a, b := part(p, 0, half), part(p, half, n)
	if b.Level != 0 && len(b.Keys) > 0 {
		b.Keys[0] = ""
	}
	return a, b
}

// Join two pages.
func Join(a, b Page) Page {
	return Page{
		Level:  a.Level,
		Keys:   slices.Concat(a.Keys, b.Keys),
		Values: slices.Concat(a.Values, b.Values),
		Kids:   slices.Concat(a.Kids, b.Kids),
	}
}

// part of a page: its entries from one place on up to another one, in memory of their own.
func part(p Page, from, to int) Page {
	return Page{
		Level:  p.Level,
		Keys:   piece(p.Keys, from, to),
		Values: piece(p.Values, from, to),
		Kids:   piece(p.Kids, from, to),
	}
}

// piece of a list, in memory of its own. A page that isn't right may have less values or kids than keys: then there is less of it.
func piece[T any](l []T, from, to int) []T {
	return slices.Clone(l[min(from, len(l)):min(to, len(l))])
}
