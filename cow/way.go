package cow

import (
	"posthorse/api"
	"posthorse/fault"
	"posthorse/look"
	"posthorse/page"
)

// opPage is what an error of a page is wrapped in, as layer 12 does it.
const opPage = "page"

// The page that another one is joined with: where it is, seen from that one.
const (
	ahead = -1
	next  = 1
)

// step of the way from the root down to a leaf.
type step struct {
	n      int
	page   page.Page
	at     int       // its place among the kids of the page above
	join   int       // ahead, next, or 0: it is joined with none
	beside page.Page // that one
}

// trail is a source that keeps what is asked of it.
type trail struct {
	of    *Change
	steps []step
}

// Page as the change has it.
func (t *trail) Page(n int) (page.Page, error) {
	p, err := t.of.Page(n)
	t.steps = append(t.steps, step{n: n, page: p})
	return p, err
}

// way down to a key's leaf, and whether the key is there. Layer 12 goes it, so that its errors are those of any look.
func (c *Change) way(key string) ([]step, bool, error) {
	t := trail{of: c}
	_, there, _, err := look.Get(&t, c.tree, key)
	if err != nil {
		return nil, false, err
	}
	l := t.steps
	for i := 1; i < len(l); i++ {
		l[i].at = page.Child(l[i-1].page, key)
	}
	return l, there, nil
}

// plan which pages of the way are joined when an entry of its leaf is gone. The pages beside them are asked for here, ahead of the first number that is taken: their errors go before a want of numbers.
func (c *Change) plan(way []step) error {
	left := len(way[len(way)-1].page.Keys) - 1
	for i := len(way) - 1; i > 0; i-- {
		s, up := &way[i], way[i-1].page
		if left >= least(s.page.Level) {
			return nil
		}
		s.join = next
		if s.at == len(up.Kids)-1 {
			s.join = ahead
		}
		p, err := c.ask(up.Kids[s.at+s.join], s.page.Level)
		if err != nil {
			return err
		}
		s.beside = p
		if left+len(p.Keys) > most(s.page.Level) {
			return nil
		}
		left = len(up.Keys) - 1
	}
	return nil
}

// ask for a page that is to have that level.
func (c *Change) ask(n, level int) (page.Page, error) {
	p, err := c.Page(n)
	if err == nil && (!page.Right(p) || p.Level != level) {
		err = api.ErrCorrupt
	}
	if err != nil {
		return page.Page{}, fault.Wrap(opPage, n, err)
	}
	return p, nil
}

// most entries that a page of a level may have.
func most(level int) int {
	if level == 0 {
		return page.MostLeaf
	}
	return page.MostInner
}

// least entries that a page of a level is to have, where it isn't the root.
func least(level int) int {
	if level == 0 {
		return page.LeastLeaf
	}
	return page.LeastInner
}
