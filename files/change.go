package files

import (
	"errors"

	"posthorse/api"
	"posthorse/bits"
	"posthorse/drive"
	"posthorse/inode"
)

// change of a file that isn't committed as yet: its inode and the set as they are to be, and the sectors of the two.
type change struct {
	file  int
	inode inode.Inode
	set   *bits.Set
	puts  []drive.Put
}

// changed: a change of a file to an inode and a set.
func (f *Files) changed(file int, x inode.Inode, set *bits.Set) (change, error) {
	s, err := setPut(f.layout, set)
	if err != nil {
		return change{}, err
	}
	i, err := inodePut(f.layout, file, x)
	if err != nil {
		return change{}, err
	}
	return change{file: file, inode: x, set: set, puts: []drive.Put{s, i}}, nil
}

// settle a change: it is committed, and only then it counts here, too.
func (f *Files) settle(c change) error {
	if err := f.commit(c.puts...); err != nil {
		return err
	}
	f.inodes[c.file], f.set = c.inode, c.set
	return nil
}

// commit sectors; where the journal is full, behind a checkpoint.
func (f *Files) commit(l ...drive.Put) error {
	err := f.journal.Commit(l...)
	if !errors.Is(err, api.ErrJournal) {
		return err
	}
	if err := f.journal.Checkpoint(); err != nil {
		return err
	}
	return f.journal.Commit(l...)
}

// Grow a file by blocks.
func (f *Files) Grow(file, n int) error {
	if !f.has(file) || n < 1 {
		return api.ErrArg
	}
	c, err := f.grown(file, n)
	if err != nil {
		return err
	}
	return f.settle(c)
}

// grown: the change by which a file has so many more blocks.
func (f *Files) grown(file, n int) (change, error) {
	usable := f.usable()
	if _, free := usable.Size(); free < n {
		return change{}, api.ErrSpace
	}
	first, _ := f.layout.Data()
	x, set := f.inodes[file], f.set.Copy()
	for n > 0 {
		at, k := bestRun(usable, n)
		if err := takeBoth(usable, set, at, k); err != nil {
			return change{}, err
		}
		var err error
		if x, err = inode.Grow(x, inode.Extent{At: first + at, Len: k}); err != nil {
			return change{}, err
		}
		n -= k
	}
	return f.changed(file, x, set)
}

// bestRun of free blocks, where n are missing: where it begins, and how many of it are to be taken.
func bestRun(set *bits.Set, n int) (int, int) {
	if at, ok := set.Run(n, 0); ok {
		return at, n
	}
	return set.Longest()
}

// takeBoth: a run is taken in two sets.
func takeBoth(a, b *bits.Set, at, n int) error {
	if err := a.Take(at, n); err != nil {
		return err
	}
	return b.Take(at, n)
}

// Cut a file to blocks: what is free then.
func (f *Files) Cut(file, n int) ([]inode.Extent, error) {
	if !f.has(file) {
		return nil, api.ErrArg
	}
	x, free, err := inode.Cut(f.inodes[file], n)
	if err != nil || len(free) == 0 {
		return nil, err
	}
	c, err := f.without(file, x, free)
	if err != nil {
		return nil, err
	}
	// Were something to wait for these blocks, it could be written over what another file will have there.
	if err := f.journal.Checkpoint(); err != nil {
		return nil, err
	}
	if err := f.settle(c); err != nil {
		return nil, err
	}
	return free, nil
}

// without: the change to an inode, by which some extents are given back.
func (f *Files) without(file int, x inode.Inode, gone []inode.Extent) (change, error) {
	first, _ := f.layout.Data()
	set := f.set.Copy()
	for _, e := range gone {
		if err := set.Give(e.At-first, e.Len); err != nil {
			return change{}, err
		}
	}
	return f.changed(file, x, set)
}

// Move an extent of a file elsewhere: where it was.
func (f *Files) Move(file, i int) (inode.Extent, error) {
	if !f.has(file) || i < 0 || i >= len(f.inodes[file].Extents) {
		return inode.Extent{}, api.ErrArg
	}
	c, was, err := f.moved(file, i)
	if err != nil {
		return inode.Extent{}, err
	}
	// As with Cut: nothing is to wait for blocks that become free.
	if err := f.journal.Checkpoint(); err != nil {
		return inode.Extent{}, err
	}
	if err := f.carry(was, c.inode.Extents[i].At); err != nil {
		return inode.Extent{}, err
	}
	if err := f.settle(c); err != nil {
		return inode.Extent{}, err
	}
	return was, nil
}

// moved: the change by which an extent of a file lies elsewhere, and where it was.
func (f *Files) moved(file, i int) (change, inode.Extent, error) {
	first, _ := f.layout.Data()
	n := f.inodes[file].Extents[i].Len
	at, ok := f.usable().Run(n, 0)
	if !ok {
		return change{}, inode.Extent{}, api.ErrSpace
	}
	x, was, err := inode.Move(f.inodes[file], i, first+at)
	if err != nil {
		return change{}, inode.Extent{}, err
	}
	set := f.set.Copy()
	if err := set.Take(at, n); err != nil {
		return change{}, inode.Extent{}, err
	}
	if err := set.Give(was.At-first, n); err != nil {
		return change{}, inode.Extent{}, err
	}
	c, err := f.changed(file, x, set)
	return c, was, err
}

// carry what an extent's blocks have to other sectors, so that it lasts there.
func (f *Files) carry(from inode.Extent, to int) error {
	puts := make([]drive.Put, from.Len)
	for k := range puts {
		s, err := f.journal.Read(from.At + k)
		if err != nil {
			return err
		}
		puts[k] = drive.Put{Sector: to + k, Data: s}
	}
	if err := f.drive.Write(puts...); err != nil {
		return err
	}
	return f.drive.Flush()
}
