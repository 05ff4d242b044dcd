package files

import (
	"posthorse/api"
	"posthorse/bits"
	"posthorse/drive"
	"posthorse/inode"
	"posthorse/journal"
	"posthorse/super"
)

// fits: has the drive's device all sectors of a layout?
func fits(v *drive.Drive, l super.Layout) bool {
	sectors, _ := v.Device().Size()
	return l.Sectors <= sectors
}

// format a device: the superblock comes last, since it says that all the rest is there.
func format(v *drive.Drive, l super.Layout) error {
	if v == nil || !super.Right(l) || !fits(v, l) {
		return api.ErrArg
	}
	at, n := l.Ring()
	if err := journal.Format(v, at, n); err != nil {
		return err
	}
	puts, err := empty(l)
	if err != nil {
		return err
	}
	if err := v.Write(puts...); err != nil {
		return err
	}
	if err := v.Flush(); err != nil {
		return err
	}
	s, err := super.Put(l)
	if err != nil {
		return err
	}
	return v.Force(drive.Put{Sector: superAt, Data: s})
}

// empty: the sectors of a set without a block that is taken, and of files without blocks.
func empty(l super.Layout) ([]drive.Put, error) {
	_, n := l.Data()
	set, err := bits.New(n)
	if err != nil {
		return nil, err
	}
	p, err := setPut(l, set)
	if err != nil {
		return nil, err
	}
	puts := []drive.Put{p}
	for file := range api.MaxFiles {
		p, err := inodePut(l, file, inode.Inode{})
		if err != nil {
			return nil, err
		}
		puts = append(puts, p)
	}
	return puts, nil
}

// setPut: what the set's sector is to have.
func setPut(l super.Layout, set *bits.Set) (drive.Put, error) {
	s, err := set.Put()
	return drive.Put{Sector: l.Bits(), Data: s}, err
}

// inodePut: what the sector of a file's inode is to have.
func inodePut(l super.Layout, file int, x inode.Inode) (drive.Put, error) {
	s, err := inode.Put(x)
	sector, _ := l.Inode(file)
	return drive.Put{Sector: sector, Data: s}, err
}

// open the files of a device: what the journal has is done first, and then all must agree.
func open(v *drive.Drive) (*Files, error) {
	if v == nil {
		return nil, api.ErrArg
	}
	l, err := readLayout(v)
	if err != nil {
		return nil, err
	}
	at, n := l.Ring()
	j, err := journal.Open(v, at, n)
	if err != nil {
		return nil, err
	}
	f := &Files{drive: v, layout: l, journal: j, held: map[int]int{}}
	if err := f.readSet(); err != nil {
		return nil, err
	}
	if err := f.readInodes(); err != nil {
		return nil, err
	}
	if !f.agree() {
		return nil, api.ErrCorrupt
	}
	return f, nil
}

// readLayout of a device.
func readLayout(v *drive.Drive) (super.Layout, error) {
	s, err := v.Read(superAt)
	if err != nil {
		return super.Layout{}, err
	}
	l, err := super.Get(s)
	if err != nil {
		return super.Layout{}, err
	}
	if !fits(v, l) {
		return super.Layout{}, api.ErrCorrupt
	}
	return l, nil
}

// readSet of the blocks.
func (f *Files) readSet() error {
	s, err := f.journal.Read(f.layout.Bits())
	if err != nil {
		return err
	}
	_, n := f.layout.Data()
	f.set, err = bits.Get(s, n)
	return err
}

// readInodes of all files.
func (f *Files) readInodes() error {
	for file := range f.inodes {
		sector, _ := f.layout.Inode(file)
		s, err := f.journal.Read(sector)
		if err != nil {
			return err
		}
		f.inodes[file], err = inode.Get(s, f.layout.Sectors)
		if err != nil {
			return err
		}
	}
	return nil
}

// agree: are just those blocks taken that a file has, and has none two files?
func (f *Files) agree() bool {
	first, n := f.layout.Data()
	had, err := bits.New(n)
	if err != nil {
		return false
	}
	for _, x := range f.inodes {
		for _, e := range x.Extents {
			// It can't be taken where it is no block, or another file has it.
			if had.Take(e.At-first, e.Len) != nil {
				return false
			}
		}
	}
	for block := range n {
		if had.Has(block) != f.set.Has(block) {
			return false
		}
	}
	return true
}
