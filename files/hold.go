package files

import (
	"posthorse/bits"
	"posthorse/inode"
)

// Free: how many blocks are.
func (f *Files) Free() int {
	if f == nil {
		return 0
	}
	_, free := f.usable().Size()
	return free
}

// Hold an extent: nothing is to be laid there; or not any longer.
func (f *Files) Hold(e inode.Extent, held bool) {
	if f == nil || e.At < 0 {
		return
	}
	first, n := f.layout.Data()
	end := e.At + min(e.Len, first+n-e.At) // the sum of At and Len may be above every int
	for sector := max(e.At, first); sector < end; sector++ {
		f.hold(sector-first, held)
	}
}

// hold a block once more, or once less.
func (f *Files) hold(block int, held bool) {
	if held {
		f.held[block]++
		return
	}
	f.held[block]--
	if f.held[block] < 1 { // also where it wasn't held at all
		delete(f.held, block)
	}
}

// usable: the set, with the blocks that are held as if they were taken, too.
func (f *Files) usable() *bits.Set {
	set := f.set.Copy()
	for block := range f.held {
		if !set.Has(block) {
			set.Take(block, 1)
		}
	}
	return set
}
