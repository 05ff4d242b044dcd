package files

import (
	"slices"

	"posthorse/api"
	"posthorse/drive"
	"posthorse/inode"
)

// Block of a file: what it is to have.
type Block struct {
	At   int
	Data string
}

// sector of a file's block.
func (f *Files) sector(file, block int) (int, error) {
	if !f.has(file) {
		return 0, api.ErrArg
	}
	sector, ok := inode.Map(f.inodes[file], block)
	if !ok {
		return 0, api.ErrNone
	}
	return sector, nil
}

// put of a file's block, as one of its sector.
func (f *Files) put(file int, b Block) (drive.Put, error) {
	sector, err := f.sector(file, b.At)
	return drive.Put{Sector: sector, Data: b.Data}, err
}

// Read a block of a file.
func (f *Files) Read(file, block int) (string, error) {
	sector, err := f.sector(file, block)
	if err != nil {
		return "", err
	}
	return f.journal.Read(sector)
}

// Write blocks of a file.
func (f *Files) Write(file int, l ...Block) error {
	if !f.has(file) { // also where there are no blocks
		return api.ErrArg
	}
	puts := make([]drive.Put, len(l))
	for i, b := range l {
		p, err := f.put(file, b)
		if err != nil {
			return err
		}
		puts[i] = p
	}
	// What waits for a sector would be read in the place of what is written now, and be written over it later.
	if slices.ContainsFunc(puts, func(p drive.Put) bool { return f.journal.Waits(p.Sector) }) {
		if err := f.journal.Checkpoint(); err != nil {
			return err
		}
	}
	return f.drive.Write(puts...)
}

// Commit a block of a file by the journal.
func (f *Files) Commit(file int, b Block) error {
	p, err := f.put(file, b)
	if err != nil {
		return err
	}
	return f.commit(p)
}

// Checkpoint of the journal.
func (f *Files) Checkpoint() error {
	if f == nil {
		return api.ErrArg
	}
	return f.journal.Checkpoint()
}
