package look

import (
	"slices"

	"posthorse/api"
	"posthorse/page"
)

// reach: from a key on, up to another one; without an end, where that is empty.
type reach struct {
	from, to string
}

// below the reach's end?
func (r reach) below(key string) bool { return r.to == "" || key < r.to }

// has the key within?
func (r reach) has(key string) bool { return key >= r.from && r.below(key) }

// empty: may no key be within?
func (r reach) empty() bool { return !r.below(r.from) }

// kid: what the page at the place i of an inner page may have, where that one may have what is within r.
func (r reach) kid(p page.Page, i int) reach {
	k := r
	if i > 0 {
		k.from = p.Keys[i]
	}
	if i+1 < len(p.Keys) {
		k.to = p.Keys[i+1]
	}
	return k
}

// meets: may a key be within both, of which none is empty?
func (r reach) meets(o reach) bool { return r.below(o.from) && o.below(r.from) }

// Scan the entries from a key on, up to another one.
func Scan(s Source, t Tree, from, to string) ([]Entry, error) {
	if !right(s, t) {
		return nil, api.ErrArg
	}
	c := scanner{source: s, wanted: reach{from: from, to: to}}
	if t.Height == 0 || c.wanted.empty() {
		return nil, nil
	}
	if err := c.visit(t.Root, t.Height-1); err != nil {
		return nil, err
	}
	return c.entries, nil
}

// scanner: what is looked for, and what was found of it by now.
type scanner struct {
	source  Source
	wanted  reach
	entries []Entry
}

// visit a page: take in what the page and those below it have.
func (c *scanner) visit(n, level int) error {
	p, err := ask(c.source, n, level)
	if err != nil {
		return err
	}
	for i, value := range p.Values {
		if c.wanted.has(p.Keys[i]) {
			c.entries = append(c.entries, Entry{Key: p.Keys[i], Value: value})
		}
	}
	for i, kid := range p.Kids {
		if !c.wanted.meets(reach{}.kid(p, i)) {
			continue
		}
		if err := c.visit(kid, level-1); err != nil {
			return err
		}
	}
	return nil
}

// Pages of a tree, if it is right.
func Pages(s Source, t Tree) ([]int, error) {
	if !right(s, t) {
		return nil, api.ErrArg
	}
	if t.Height == 0 {
		return nil, nil
	}
	w := walker{source: s, root: t.Root, seen: map[int]struct{}{}}
	if err := w.visit(t.Root, t.Height-1, reach{}); err != nil {
		return nil, err
	}
	return w.pages, nil
}

// walker: the pages that were found by now, and found right.
type walker struct {
	source Source
	root   int
	pages  []int
	seen   map[int]struct{}
}

// visit a page: take it in, whose keys are to be within r, and those below it.
func (w *walker) visit(n, level int, r reach) error {
	if _, twice := w.seen[n]; twice {
		return corrupt(n)
	}
	w.seen[n] = struct{}{}
	p, err := ask(w.source, n, level)
	if err != nil {
		return err
	}
	if !within(p, r) || n != w.root && few(p) {
		return corrupt(n)
	}
	w.pages = append(w.pages, n)
	for i, kid := range p.Kids {
		if err := w.visit(kid, level-1, r.kid(p, i)); err != nil {
			return err
		}
	}
	return nil
}

// within: are all keys of a page within r? An inner page's first one is none: it stands for all that is below the second.
func within(p page.Page, r reach) bool {
	keys := p.Keys
	if p.Level > 0 {
		keys = keys[1:]
	}
	return !slices.ContainsFunc(keys, func(key string) bool { return !r.has(key) })
}

// few: has it less entries than a page that isn't the root must have?
func few(p page.Page) bool {
	if p.Level == 0 {
		return len(p.Keys) < page.LeastLeaf
	}
	return len(p.Keys) < page.LeastInner
}
