package files_test

import (
	"math"
	"slices"
	"testing"

	"posthorse/api"
	"posthorse/fault"
	"posthorse/files"
	"posthorse/inode"
	"posthorse/nvme"
	"posthorse/super"
)

// isCut: does a Cut free these?
func isCut(t *testing.T, f *files.Files, file, n int, want ...inode.Extent) {
	t.Helper()
	if l, err := f.Cut(file, n); err != nil || !slices.Equal(l, want) {
		t.Errorf("cut %d %d: %v %v, want %v", file, n, l, err, want)
	}
}

// isMoved: does a Move tell that the extent was there?
func isMoved(t *testing.T, f *files.Files, file, i int, want inode.Extent) {
	t.Helper()
	if was, err := f.Move(file, i); err != nil || was != want {
		t.Errorf("move %d %d: %v %v, want %v", file, i, was, err, want)
	}
}

// P10.3: what Grow refuses, and what comes first.
func TestGrowWrong(t *testing.T) {
	d, f := fresh(t, small)
	count := counted(d)
	for _, file := range wrong {
		for _, n := range []int{math.MinInt, 0, 1, 100} {
			if err := f.Grow(file, n); err != api.ErrArg {
				t.Error(file, n, err)
			}
		}
	}
	for _, n := range []int{math.MinInt, -1, 0} {
		if err := f.Grow(0, n); err != api.ErrArg {
			t.Error(n, err)
		}
	}
	for _, n := range []int{blocks + 1, 5000, math.MaxInt} {
		if err := f.Grow(0, n); err != api.ErrSpace {
			t.Error(n, err)
		}
	}
	f.Hold(ext(first+9, 1), true)
	if err := f.Grow(0, blocks); err != api.ErrSpace {
		t.Error(err)
	}
	if c := count(); c != [3]int{} {
		t.Error(c)
	}
	isInode(t, f, 0, 0)
	ok(t, f.Grow(0, blocks-1))
	isInode(t, f, 0, 2, ext(first+10, 16), ext(first, 9))
	free(t, f.Free(), 0)
	if err := f.Grow(0, 1); err != api.ErrSpace {
		t.Error(err)
	}
}

// P10.3: the first run that has as many as are missing.
func TestGrowFirst(t *testing.T) {
	_, f := fresh(t, small)
	f.Hold(ext(first+2, 1), true) // the document's example
	ok(t, f.Grow(0, 3))
	isInode(t, f, 0, 1, ext(first+3, 3))
	ok(t, f.Grow(0, 2)) // not those behind the last extent: the first ones
	isInode(t, f, 0, 2, ext(first+3, 3), ext(first, 2))
	ok(t, f.Grow(1, 1))
	isInode(t, f, 1, 1, ext(first+6, 1))
	f.Hold(ext(first+2, 1), false)
	ok(t, f.Grow(0, 1)) // it goes on where the last extent ends
	isInode(t, f, 0, 3, ext(first+3, 3), ext(first, 3))
	free(t, f.Free(), blocks-7)
}

// P10.3: without one that is long enough the longest, the first one of several, all of it.
func TestGrowLongest(t *testing.T) {
	_, f := fresh(t, small)
	// Free: 0 to 1, 3 to 6, 8 to 11, 13 to 14, 16 to 17.
	for _, e := range []inode.Extent{ext(2, 1), ext(7, 1), ext(12, 1), ext(15, 1), ext(18, 8)} {
		f.Hold(ext(first+e.At, e.Len), true)
	}
	free(t, f.Free(), 14)
	ok(t, f.Grow(0, 5))
	isInode(t, f, 0, 2, ext(first+3, 4), ext(first, 1))
	ok(t, f.Grow(0, 8)) // 8 to 11, then 13 to 14 as the first longest, then 16 to 17
	isInode(t, f, 0, 5, ext(first+3, 4), ext(first, 1), ext(first+8, 4), ext(first+13, 2), ext(first+16, 2))
	ok(t, f.Grow(0, 1))
	isInode(t, f, 0, 6, ext(first+3, 4), ext(first, 1), ext(first+8, 4), ext(first+13, 2), ext(first+16, 2), ext(first+1, 1))
	free(t, f.Free(), 0)
}

// P10.3: Grow's error, where there are too many extents: nothing is changed by what went before.
func TestGrowExtents(t *testing.T) {
	d, f := fresh(t, super.Layout{Sectors: 200, Journal: 12})
	for i := range 91 {
		f.Hold(ext(18+2*i, 1), true) // every second block
	}
	ok(t, f.Grow(0, 34))
	ok(t, f.Grow(1, 2))
	ok(t, f.Checkpoint())
	left, count := f.Free(), counted(d)
	was, _ := f.Inode(0)
	if err := f.Grow(0, 3); err != api.ErrExtents {
		t.Error(err)
	}
	isInode(t, f, 0, 34, was.Extents...)
	free(t, f.Free(), left)
	if c := count(); c != [3]int{} {
		t.Error(c)
	}
	ok(t, f.Grow(0, 2))
	if x, _ := f.Inode(0); x.Version != 36 || len(x.Extents) != 36 {
		t.Error(x)
	}
	if err := f.Grow(0, 1); err != api.ErrExtents {
		t.Error(err)
	}
	f = again(t, f)
	if x, _ := f.Inode(0); x.Version != 36 || len(x.Extents) != 36 {
		t.Error(x)
	}
}

// P10.3: the set and the inode are one transaction.
func TestGrowCommits(t *testing.T) {
	d, f := fresh(t, super.Layout{Sectors: 60, Journal: 20})
	count := counted(d)
	ok(t, f.Grow(1, 2))
	if c := count(); c != [3]int{0, 4, 1} || waits(f) != 2 || !f.Journal().Waits(21) || !f.Journal().Waits(23) {
		t.Error(c, waits(f))
	}
	if n, _ := f.Journal().Room(); n != 19-4-2 {
		t.Error("room", n)
	}
	has(t, d, 21, setOf(t, 34))
	ok(t, f.Checkpoint())
	has(t, d, 21, setOf(t, 34, ext(0, 2)))
	has(t, d, 23, inodeOf(t, 1, ext(26, 2)))
	if waits(f) != 0 {
		t.Error(waits(f))
	}
}

// P10.3, P10.4: where the journal is full, there is a checkpoint, and the commit goes on.
func TestFullJournal(t *testing.T) {
	d, f := fresh(t, small) // seven places: one transaction of two, and one of one
	ok(t, f.Grow(0, 1))
	ok(t, f.Commit(0, block(0, "a")))
	if n, w := f.Journal().Room(); n != 0 || w != 3 {
		t.Fatal(n, w)
	}
	count := counted(d)
	ok(t, f.Commit(0, block(0, "b")))
	if c := count(); c != [3]int{0, 4 + 3, 2} || waits(f) != 1 {
		t.Error(c, waits(f))
	}
	isRead(t, f, 0, 0, "b")
	has(t, d, first, full("a"))
	has(t, d, setAt, setOf(t, blocks, ext(0, 1)))
	ok(t, f.Grow(1, 1)) // it goes into the places that are left
	ok(t, f.Grow(2, 1)) // this one doesn't
	if waits(f) != 2 {
		t.Error(waits(f))
	}
	has(t, d, first, full("b"))
	f = again(t, f)
	isInode(t, f, 2, 1, ext(first+2, 1))
	isRead(t, f, 0, 0, "b")
}

// P10.3: what Cut refuses.
func TestCutWrong(t *testing.T) {
	d, f := fresh(t, small)
	ok(t, f.Grow(1, 3))
	count := counted(d)
	for _, file := range wrong {
		if l, err := f.Cut(file, 0); len(l) != 0 || err != api.ErrArg {
			t.Error(file, l, err)
		}
	}
	for _, n := range []int{math.MinInt, -1, 4, math.MaxInt} {
		if l, err := f.Cut(1, n); len(l) != 0 || err != api.ErrArg {
			t.Error(n, l, err)
		}
	}
	if c := count(); c != [3]int{} || waits(f) != 2 {
		t.Error(c)
	}
	isInode(t, f, 1, 1, ext(first, 3))
}

// P10.3: what is free behind a Cut may be had by others; where nothing is, nothing is done.
func TestCut(t *testing.T) {
	d, f := fresh(t, small)
	ok(t, f.Grow(0, 2))
	ok(t, f.Grow(1, 1))
	ok(t, f.Grow(0, 3))
	isInode(t, f, 0, 2, ext(first, 2), ext(first+3, 3))
	count := counted(d)
	isCut(t, f, 0, 5)
	isCut(t, f, 2, 0)
	if c := count(); c != [3]int{} || waits(f) == 0 {
		t.Error("nothing is cut:", c)
	}
	isCut(t, f, 0, 4, ext(first+5, 1))
	isInode(t, f, 0, 3, ext(first, 2), ext(first+3, 2))
	free(t, f.Free(), blocks-5)
	isCut(t, f, 0, 1, ext(first+1, 1), ext(first+3, 2))
	isInode(t, f, 0, 4, ext(first, 1))
	ok(t, f.Grow(3, 4))
	isInode(t, f, 3, 1, ext(first+3, 4))
	isCut(t, f, 0, 0, ext(first, 1))
	isInode(t, f, 0, 5)
	f = again(t, f)
	isInode(t, f, 0, 5)
	isInode(t, f, 3, 1, ext(first+3, 4))
	free(t, f.Free(), blocks-5)
}

// P10.3: ahead of a Cut there is a checkpoint, so that nothing waits for what is free then.
func TestCutCheckpoints(t *testing.T) {
	d, f := fresh(t, super.Layout{Sectors: 60, Journal: 20})
	ok(t, f.Grow(0, 2))
	ok(t, f.Commit(0, block(1, "a")))
	count := counted(d)
	isCut(t, f, 0, 1, ext(27, 1))
	if c := count(); c != [3]int{0, 4 + 4, 2} || waits(f) != 2 || f.Journal().Waits(27) {
		t.Error(c, waits(f))
	}
	ok(t, f.Grow(1, 1))
	isInode(t, f, 1, 1, ext(27, 1))
	ok(t, f.Write(1, block(0, "b")))
	ok(t, f.Drive().Flush())
	f = again(t, f)
	isRead(t, f, 1, 0, "b")
}

// P10.3: a list that Cut answered is the caller's own.
func TestCutAnswer(t *testing.T) {
	_, f := fresh(t, small)
	ok(t, f.Grow(0, 4))
	l, err := f.Cut(0, 2)
	ok(t, err)
	l[0] = ext(first, 9)
	isInode(t, f, 0, 2, ext(first, 2))
	free(t, f.Free(), blocks-2)
}

// P10.3: what Move refuses.
func TestMoveWrong(t *testing.T) {
	d, f := fresh(t, small)
	ok(t, f.Grow(0, 12))
	count := counted(d)
	for _, file := range wrong {
		if was, err := f.Move(file, 0); was != (inode.Extent{}) || err != api.ErrArg {
			t.Error(file, was, err)
		}
	}
	for _, i := range []int{math.MinInt, -1, 1, 36, math.MaxInt} {
		if was, err := f.Move(0, i); was != (inode.Extent{}) || err != api.ErrArg {
			t.Error(i, was, err)
		}
	}
	if _, err := f.Move(1, 0); err != api.ErrArg {
		t.Error(err)
	}
	f.Hold(ext(first+14, 1), true) // free runs of 2 and of 11
	if was, err := f.Move(0, 0); was != (inode.Extent{}) || err != api.ErrSpace {
		t.Error(was, err)
	}
	if c := count(); c != [3]int{} {
		t.Error(c)
	}
	isInode(t, f, 0, 1, ext(first, 12))
	free(t, f.Free(), blocks-13)
	f.Hold(ext(first+14, 1), false)
	isMoved(t, f, 0, 0, ext(first, 12))
	isInode(t, f, 0, 2, ext(first+12, 12))
}

// P10.3: a moved extent has what it had; where it was is free.
func TestMove(t *testing.T) {
	d, f := fresh(t, super.Layout{Sectors: 60, Journal: 20})
	ok(t, f.Grow(0, 1))
	ok(t, f.Grow(1, 1))
	ok(t, f.Grow(0, 3))
	isInode(t, f, 0, 2, ext(26, 1), ext(28, 3))
	ok(t, f.Write(0, block(0, "a"), block(1, "b"), block(2, "c"))) // not flushed
	ok(t, f.Commit(0, block(3, "d")))                              // not at its place as yet
	count := counted(d)
	isMoved(t, f, 0, 1, ext(28, 3))
	// The checkpoint of four sectors and the head; three blocks; a transaction of two.
	if c := count(); c != [3]int{3, 5 + 3 + 4, 3} || waits(f) != 2 {
		t.Error(c, waits(f))
	}
	isInode(t, f, 0, 3, ext(26, 1), ext(31, 3))
	for i, want := range []string{"a", "b", "c", "d"} {
		isRead(t, f, 0, i, want)
	}
	free(t, f.Free(), 34-5)
	f = again(t, f)
	for i, want := range []string{"a", "b", "c", "d"} {
		isRead(t, f, 0, i, want)
	}
	isMoved(t, f, 0, 0, ext(26, 1)) // to the first such run, which is free again
	isInode(t, f, 0, 4, ext(28, 1), ext(31, 3))
	f.Hold(ext(26, 1), true)
	isMoved(t, f, 1, 0, ext(27, 1)) // not to where it is held
	isInode(t, f, 1, 2, ext(29, 1))
}

// P10.3: what wasn't moved may be taken for what was free behind a Move, without harm to the file.
func TestMoveThenGrow(t *testing.T) {
	_, f := fresh(t, small)
	ok(t, f.Grow(0, 2))
	ok(t, f.Commit(0, block(0, "a")))
	ok(t, f.Commit(0, block(1, "b")))
	isMoved(t, f, 0, 0, ext(first, 2))
	ok(t, f.Grow(1, 2))
	isInode(t, f, 1, 1, ext(first, 2))
	ok(t, f.Write(1, block(0, "x"), block(1, "y")))
	ok(t, f.Drive().Flush())
	f = again(t, f)
	isRead(t, f, 0, 0, "a")
	isRead(t, f, 0, 1, "b")
	isRead(t, f, 1, 0, "x")
	isRead(t, f, 1, 1, "y")
}

// P10.3: a Version that can't be counted on: the error comes ahead of every write.
func TestLastVersion(t *testing.T) {
	d, v := device(t, 40)
	ok(t, files.Format(v, small))
	force(t, v, setAt, setOf(t, blocks, ext(0, 2)))
	force(t, v, inodesAt, inodeOf(t, 1<<48-1, ext(first, 2)))
	f := open(t, v)
	ok(t, f.Commit(0, block(0, "a")))
	was := state(t, d)
	_, cut := f.Cut(0, 1)
	_, move := f.Move(0, 0)
	for _, err := range []error{f.Grow(0, 1), cut, move} {
		if err != api.ErrArg {
			t.Error(err)
		}
	}
	if !slices.Equal(state(t, d), was) || waits(f) != 1 {
		t.Error("something was written")
	}
	isInode(t, f, 0, 1<<48-1, ext(first, 2))
	isCut(t, f, 0, 2)
}

// P10.4: behind an error of the device's the inodes, the set and what is held are as they were, and it goes on when the device does.
func TestBusyDevice(t *testing.T) {
	d, f := fresh(t, small)
	ok(t, f.Grow(0, 3))
	ok(t, f.Write(0, block(0, "a"), block(1, "b"), block(2, "c")))
	f.Hold(ext(first+20, 2), true)
	for range 8 {
		ok(t, d.Submit(nvme.Command{Kind: nvme.Flush, Tag: 1}))
	}
	_, cut := f.Cut(0, 1)
	_, move := f.Move(0, 0)
	_, read := f.Read(0, 0)
	for i, err := range []error{f.Grow(1, 2), cut, move, read, f.Write(0, block(0, "x")), f.Commit(0, block(0, "x")), f.Checkpoint()} {
		if fault.Number(err) != api.ErrQueue {
			t.Error(i, err)
		}
	}
	isInode(t, f, 0, 1, ext(first, 3))
	isInode(t, f, 1, 0)
	free(t, f.Free(), blocks-5)
	for range 8 {
		if _, err := d.Complete(0); err != nil {
			t.Fatal(err)
		}
	}
	for i, want := range []string{"a", "b", "c"} {
		isRead(t, f, 0, i, want)
	}
	isMoved(t, f, 0, 0, ext(first, 3))
	ok(t, f.Grow(1, 1))
	f = again(t, f)
	isInode(t, f, 0, 2, ext(first+3, 3))
	isInode(t, f, 1, 1, ext(first, 1))
}
