package tree

import (
	"slices"

	"posthorse/api"
	"posthorse/cow"
	"posthorse/files"
	"posthorse/meta"
	"posthorse/page"
)

// Op of a batch: an entry that is put, or deleted.
type Op struct {
	Key, Value string
	Delete     bool
}

// isLong: has it a key or a value that may not be? (A delete's value is nobody's.)
func (o Op) isLong() bool {
	return len(o.Key) < 1 || len(o.Key) > api.MaxKey || !o.Delete && len(o.Value) > api.MaxValue
}

// Batch of operations: all of them, or none.
func (t *Tree) Batch(l ...Op) error {
	if t == nil {
		return api.ErrArg
	}
	if len(l) > api.MaxBatch || slices.ContainsFunc(l, Op.isLong) {
		return api.ErrLong
	}
	c := cow.Begin(t, t.meta.Tree, t.numbers())
	keys, err := do(c, t.meta.Keys, l)
	if err != nil {
		return err
	}
	fresh, dropped := c.Fresh(), c.Dropped()
	if len(fresh) == 0 && len(dropped) == 0 {
		return nil
	}
	if err := t.write(fresh); err != nil {
		return err
	}
	// Only now, when the pages last, the meta may tell of them.
	m, err := meta.Next(t.meta, c.Tree(), keys, numbersOf(fresh), dropped)
	if err != nil {
		return err
	}
	if err := commit(t.files, t.file, m); err != nil {
		return err
	}
	t.meta = m
	t.pages.Drop(dropped...)
	return nil
}

// numbers that new pages may have: ahead those that the file has already.
func (t *Tree) numbers() []int {
	size := t.size()
	l := slices.DeleteFunc(meta.Unused(t.meta, size), t.pages.Has)
	for n := size; n < api.MaxPages; n++ {
		l = append(l, n)
	}
	return l
}

// do operations in a change of a tree of so many keys: how many it has then.
func do(c *cow.Change, keys int, l []Op) (int, error) {
	for _, o := range l {
		n, err := doOne(c, o)
		if err != nil {
			return 0, err
		}
		keys += n
	}
	return keys, nil
}

// doOne operation in a change: how many keys there are more.
func doOne(c *cow.Change, o Op) (int, error) {
	if o.Delete {
		there, err := c.Delete(o.Key)
		if err != nil || !there {
			return 0, err
		}
		return -1, nil
	}
	there, err := c.Put(o.Key, o.Value)
	if err != nil || there {
		return 0, err
	}
	return 1, nil
}

// numbersOf fresh pages.
func numbersOf(fresh []cow.Fresh) []int {
	l := make([]int, len(fresh))
	for i, p := range fresh {
		l[i] = p.N
	}
	return l
}

// write fresh pages, so that they last. The file grows where it hasn't their blocks.
func (t *Tree) write(fresh []cow.Fresh) error {
	if err := t.growFor(fresh); err != nil {
		return err
	}
	blocks := make([]files.Block, len(fresh))
	for i, p := range fresh {
		s, err := page.Put(p.Page)
		if err != nil {
			return err
		}
		blocks[i] = files.Block{At: p.N, Data: s}
	}
	if err := t.files.Write(t.file, blocks...); err != nil {
		return err
	}
	return t.files.Drive().Flush()
}

// growFor fresh pages, whose numbers rise: the file is to have the last one.
func (t *Tree) growFor(fresh []cow.Fresh) error {
	if len(fresh) == 0 {
		return nil
	}
	last, size := fresh[len(fresh)-1].N, t.size()
	if last < size {
		return nil
	}
	return t.files.Grow(t.file, last+1-size)
}
