package files_test

import (
	"math"
	"testing"

	"posthorse/api"
	"posthorse/inode"
)

// free: does Free tell so many?
func free(t *testing.T, got, want int) {
	t.Helper()
	if got != want {
		t.Errorf("free: %d, want %d", got, want)
	}
}

// P10.2: what is held isn't free; held twice it must be let go twice.
func TestHold(t *testing.T) {
	_, f := fresh(t, small)
	f.Hold(ext(first+2, 3), true)
	free(t, f.Free(), blocks-3)
	f.Hold(ext(first+4, 2), true)
	free(t, f.Free(), blocks-4)
	f.Hold(ext(first+2, 3), false)
	free(t, f.Free(), blocks-2)
	f.Hold(ext(first+4, 1), false)
	free(t, f.Free(), blocks-1)
	f.Hold(ext(first+5, 1), false)
	free(t, f.Free(), blocks)
	f.Hold(ext(first+7, 1), false) // it wasn't held: that doesn't count against a later one
	f.Hold(ext(first+7, 1), true)
	free(t, f.Free(), blocks-1)
}

// P10.2: blocks that are taken may be held, too: they aren't free twice over.
func TestHoldTaken(t *testing.T) {
	_, f := fresh(t, small)
	ok(t, f.Grow(0, 4))
	f.Hold(ext(first+2, 4), true)
	free(t, f.Free(), blocks-6)
	if _, err := f.Cut(0, 1); err != nil {
		t.Fatal(err)
	}
	free(t, f.Free(), blocks-5) // 0 is taken, 2 to 5 are held
	ok(t, f.Grow(1, 2))
	isInode(t, f, 1, 1, ext(first+6, 2))
	f.Hold(ext(first+2, 4), false)
	free(t, f.Free(), blocks-3)
}

// P10.2: sectors that are no blocks don't matter, nor does what begins below 0.
func TestHoldStrange(t *testing.T) {
	for _, c := range []struct {
		e    inode.Extent
		held int
	}{
		{ext(0, first), 0}, {ext(0, first+1), 1}, {ext(first-1, 1), 0}, {ext(first-1, 3), 2}, {ext(first, 1), 1},
		{ext(first+blocks-1, 1), 1}, {ext(first+blocks-1, 7), 1}, {ext(first+blocks, 1), 0}, {ext(2048, 5), 0},
		{ext(first, 0), 0}, {ext(first, -1), 0}, {ext(first+5, -3), 0}, {ext(first, math.MinInt), 0}, {ext(math.MaxInt, math.MinInt), 0},
		{ext(first, math.MaxInt), blocks}, {ext(0, math.MaxInt), blocks}, {ext(first+20, math.MaxInt), 6}, {ext(math.MaxInt, math.MaxInt), 0}, {ext(math.MaxInt, 1), 0},
		{ext(-1, 1), 0}, {ext(-1, first+5), 0}, {ext(-1, math.MaxInt), 0}, {ext(math.MinInt, math.MaxInt), 0}, {ext(math.MinInt, math.MinInt), 0}, {ext(math.MinInt, -1), 0},
	} {
		_, f := fresh(t, small)
		f.Hold(c.e, true)
		free(t, f.Free(), blocks-c.held)
		f.Hold(c.e, false)
		free(t, f.Free(), blocks)
		f.Hold(c.e, false)
		f.Hold(c.e, true)
		free(t, f.Free(), blocks-c.held)
	}
}

// P10.2: which files have inodes, and that what was answered isn't the files' own.
func TestInode(t *testing.T) {
	_, f := fresh(t, small)
	for _, file := range wrong {
		if x, err := f.Inode(file); x.Version != 0 || x.Extents != nil || err != api.ErrArg {
			t.Error(file, x, err)
		}
	}
	ok(t, f.Grow(3, 2))
	isInode(t, f, 3, 1, ext(first, 2))
	x, _ := f.Inode(3)
	x.Version, x.Extents[0] = 7, ext(1, 1)
	isInode(t, f, 3, 1, ext(first, 2))
	ok(t, f.Grow(3, 1))
	isInode(t, f, 3, 2, ext(first, 3))
	if x.Extents[0] != ext(1, 1) {
		t.Error(x)
	}
}

// P10.2: what is held is known of these files alone, and doesn't come onto the device.
func TestHoldWritesNothing(t *testing.T) {
	d, f := fresh(t, small)
	count := counted(d)
	f.Hold(ext(first, blocks), true)
	f.Free()
	f.Hold(ext(first, blocks), false)
	if c := count(); c != [3]int{} {
		t.Error(c)
	}
}
