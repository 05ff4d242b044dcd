package tree

import "posthorse/api"

// Move an extent of the tree's file elsewhere.
func (t *Tree) Move(i int) error {
	if t == nil {
		return api.ErrArg
	}
	was, err := t.files.Move(t.file, i)
	if err != nil {
		return err
	}
	if free := t.extents.Drop(was); len(free) == 0 {
		t.files.Hold(was, true)
	}
	return nil
}

// Enter: somebody looks at the tree as it is: a ticket.
func (t *Tree) Enter() int {
	if t == nil {
		return 0
	}
	t.extents.Enter()
	return t.pages.Enter()
}

// Leave: they don't any longer.
func (t *Tree) Leave(ticket int) {
	if t == nil {
		return
	}
	t.pages.Leave(ticket)
	for _, e := range t.extents.Leave(ticket) {
		t.files.Hold(e, false)
	}
}

// Held: how many pages, and how many extents are.
func (t *Tree) Held() (int, int) {
	if t == nil {
		return 0, 0
	}
	return len(t.pages.Held()), len(t.extents.Held())
}
