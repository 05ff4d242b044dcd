package cow

import (
	"slices"

	"posthorse/api"
	"posthorse/look"
	"posthorse/page"
)

// branch: a page below another one, and the key ahead of it. The first of several has none of its own: it gets that of the page whose place it takes.
type branch struct {
	key string
	kid int
}

// climb from the way's leaf, which is to be another page, up to the root.
func (c *Change) climb(way []step, p page.Page) error {
	for i := len(way) - 1; i > 0; i-- {
		up, err := c.hang(way[i], p, way[i-1].page)
		if err != nil {
			return err
		}
		p = up
	}
	return c.crown(way[0].n, p)
}

// hang a page in a step's place: what the page above is to be then.
func (c *Change) hang(s step, p, up page.Page) (page.Page, error) {
	l, err := c.lay(p, s.n)
	if err != nil {
		return page.Page{}, err
	}
	up = graft(up, s.at, 1, l)
	if s.join == 0 {
		return up, nil
	}
	a, b, first := p, s.beside, s.at
	if s.join == ahead {
		a, b, first = s.beside, p, s.at-1
	}
	whole := page.Join(a, headed(b, up.Keys[first+1]))
	l, err = c.lay(whole, up.Kids[first], up.Kids[first+1])
	if err != nil {
		return page.Page{}, err
	}
	return graft(up, first, 2, l), nil
}

// crown the tree: the page n, which was its root, is to be another one.
func (c *Change) crown(n int, p page.Page) error {
	l, err := c.lay(p, n)
	if err != nil {
		return err
	}
	root, height := l[0].kid, c.tree.Height
	switch {
	case len(l) > 1 && height >= api.MaxHeight:
		return api.ErrSpace
	case len(l) > 1:
		top := page.Page{Level: height, Keys: []string{"", l[1].key}, Kids: []int{root, l[1].kid}}
		if root, err = c.add(top); err != nil {
			return err
		}
		height++
	case p.Level > 0 && len(p.Kids) == 1:
		c.remove(root)
		root, height = p.Kids[0], height-1
	case len(p.Keys) == 0:
		c.remove(root)
		root, height = 0, 0
	}
	c.tree = look.Tree{Root: root, Height: height}
	return nil
}

// plant a leaf where there was no tree.
func (c *Change) plant(p page.Page) error {
	n, err := c.add(p)
	if err != nil {
		return err
	}
	c.tree = look.Tree{Root: n, Height: 1}
	return nil
}

// lay a page in the place of others, as two pages where it is too much for one. Places that are left over are none any more; where there is one too few another number is taken.
func (c *Change) lay(p page.Page, places ...int) ([]branch, error) {
	parts, keys := []page.Page{p}, []string{""}
	if len(p.Keys) > most(p.Level) {
		a, b := page.Split(p)
		// b's own first key is lost at the split, where it is an inner page.
		parts, keys = []page.Page{a, b}, []string{"", p.Keys[len(a.Keys)]}
	}
	var l []branch
	for i, part := range parts {
		n, err := c.layOne(part, places, i)
		if err != nil {
			return nil, err
		}
		l = append(l, branch{key: keys[i], kid: n})
	}
	for _, n := range places[min(len(parts), len(places)):] {
		c.remove(n)
	}
	return l, nil
}

// layOne page in one of some places, or in a new one behind them: its number.
func (c *Change) layOne(p page.Page, places []int, i int) (int, error) {
	if i >= len(places) {
		return c.add(p)
	}
	n := places[i]
	if _, ok := c.fresh[n]; ok {
		c.fresh[n] = p
		return n, nil
	}
	m, err := c.add(p)
	if err != nil {
		return 0, err
	}
	c.dropped[n] = struct{}{}
	return m, nil
}

// add a fresh page: its number.
func (c *Change) add(p page.Page) (int, error) {
	last := len(c.free) - 1
	if last < 0 {
		return 0, api.ErrSpace
	}
	n := c.free[last]
	c.free = c.free[:last]
	c.fresh[n] = p
	return n, nil
}

// remove a page from the tree.
func (c *Change) remove(n int) {
	if _, ok := c.fresh[n]; ok {
		delete(c.fresh, n)
		c.free = append(c.free, n)
		return
	}
	c.dropped[n] = struct{}{}
}

// graft branches on an inner page, in the place of some of its kids: the page with them, made anew.
func graft(p page.Page, at, gone int, l []branch) page.Page {
	var keys []string
	var kids []int
	for _, b := range l {
		keys, kids = append(keys, b.key), append(kids, b.kid)
	}
	keys[0] = p.Keys[at]
	return page.Page{
		Level: p.Level,
		Keys:  slices.Concat(p.Keys[:at], keys, p.Keys[at+gone:]),
		Kids:  slices.Concat(p.Kids[:at], kids, p.Kids[at+gone:]),
	}
}

// headed: the page with a first key that may stand in the midst of a page. A leaf has one anyway.
func headed(p page.Page, key string) page.Page {
	q := copyOf(p)
	if q.Level > 0 {
		q.Keys[0] = key
	}
	return q
}

// copyOf a page: the same in memory of its own.
func copyOf(p page.Page) page.Page {
	return page.Page{
		Level:  p.Level,
		Keys:   slices.Clone(p.Keys),
		Values: slices.Clone(p.Values),
		Kids:   slices.Clone(p.Kids),
	}
}
