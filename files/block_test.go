package files_test

import (
	"math"
	"testing"

	"posthorse/api"
	"posthorse/fault"
	"posthorse/files"
	"posthorse/super"
)

// twoExtents: the file 0 has the blocks 0, 1 and 3, 4, the file 1 the block 2.
func twoExtents(t *testing.T, l super.Layout) *files.Files {
	t.Helper()
	_, f := fresh(t, l)
	ok(t, f.Grow(0, 2))
	ok(t, f.Grow(1, 1))
	ok(t, f.Grow(0, 2))
	return f
}

// P10.4: of files and blocks that there are not.
func TestBlockWrong(t *testing.T) {
	f := twoExtents(t, small)
	d := f.Drive().Device()
	was, count := waits(f), counted(d)
	for _, file := range wrong {
		if s, err := f.Read(file, 0); s != "" || err != api.ErrArg {
			t.Error(file, s, err)
		}
		for _, err := range []error{f.Write(file, block(0, "a")), f.Write(file), f.Commit(file, block(0, "a")), f.Commit(file, files.Block{At: -1})} {
			if err != api.ErrArg {
				t.Error(file, err)
			}
		}
	}
	for _, at := range []int{math.MinInt, -1, 4, 5, math.MaxInt} {
		if s, err := f.Read(0, at); s != "" || err != api.ErrNone {
			t.Error(at, s, err)
		}
		for _, err := range []error{f.Write(0, block(0, "a"), block(at, "b")), f.Write(0, files.Block{Data: "short"}, block(at, "b")), f.Commit(0, block(at, "b")), f.Commit(0, files.Block{At: at})} {
			if err != api.ErrNone {
				t.Error(at, err)
			}
		}
	}
	if _, err := f.Read(2, 0); err != api.ErrNone {
		t.Error(err)
	}
	if c := count(); c != [3]int{} || waits(f) != was {
		t.Error(c, waits(f))
	}
}

// P10.4: blocks are written to their sectors, and last behind a Flush.
func TestWrite(t *testing.T) {
	f := twoExtents(t, small)
	d := f.Drive().Device()
	count := counted(d)
	ok(t, f.Write(0))
	ok(t, f.Write(0, block(3, "d"), block(0, "a"), block(1, "b"), block(2, "c")))
	if c := count(); c != [3]int{0, 4, 0} {
		t.Error(c)
	}
	for i, want := range []string{"a", "b", "c", "d"} {
		isRead(t, f, 0, i, want)
		has(t, d, first+[]int{0, 1, 3, 4}[i], full(want))
	}
	ok(t, f.Write(0, block(1, "x"), block(1, "y")))
	isRead(t, f, 0, 1, "y")
	ok(t, f.Drive().Flush())
	ok(t, f.Write(0, block(0, "z")))
	f = again(t, f)
	isRead(t, f, 0, 0, "a")
	isRead(t, f, 0, 1, "y")
}

// P10.4: data of another length are layer 5's error, and layer 6's.
func TestLong(t *testing.T) {
	f := twoExtents(t, small)
	for _, data := range []string{"", "a", full("") + "a"} {
		err := f.Write(0, files.Block{At: 1, Data: data})
		if x, _ := fault.Find(err); fault.Number(err) != api.ErrLong || x.Op != "write" || x.At != first+1 {
			t.Error(err)
		}
		if err := f.Commit(0, files.Block{At: 1, Data: data}); err != api.ErrLong {
			t.Error(err)
		}
	}
}

// P10.4: what waits for a sector is at its place ahead of a Write of it, and ahead of that alone.
func TestWriteCheckpoints(t *testing.T) {
	f := twoExtents(t, super.Layout{Sectors: 60, Journal: 30})
	d := f.Drive().Device()
	ok(t, f.Commit(0, block(2, "old")))
	was, count := waits(f), counted(d)
	ok(t, f.Write(0, block(1, "b")))
	ok(t, f.Write(1, block(0, "e")))
	if c := count(); c != [3]int{0, 2, 0} || waits(f) != was {
		t.Error(c, waits(f))
	}
	ok(t, f.Write(0, block(0, "a"), block(2, "new"), block(3, "d")))
	if c := count(); c != [3]int{0, was + 1 + 3, 1} || waits(f) != 0 {
		t.Error(c, waits(f))
	}
	isRead(t, f, 0, 2, "new")
	ok(t, f.Drive().Flush())
	ok(t, f.Grow(3, 1))
	ok(t, f.Checkpoint())
	isRead(t, f, 0, 2, "new")
	f = again(t, f)
	isRead(t, f, 0, 2, "new")
}

// P10.4: what was committed lasts at once, and is read ahead of what the sector has.
func TestCommit(t *testing.T) {
	f := twoExtents(t, super.Layout{Sectors: 60, Journal: 30})
	d := f.Drive().Device()
	ok(t, f.Write(0, block(3, "old")))
	count := counted(d)
	ok(t, f.Commit(0, block(3, "new")))
	if c := count(); c != [3]int{0, 3, 1} || !f.Journal().Waits(36+4) {
		t.Error(c)
	}
	has(t, d, 36+4, full("old"))
	isRead(t, f, 0, 3, "new")
	if c := count(); c != [3]int{} {
		t.Error(c)
	}
	f = again(t, f)
	has(t, d, 36+4, full("new"))
	isRead(t, f, 0, 3, "new")
}

// P10.4: Checkpoint is the journal's.
func TestCheckpoint(t *testing.T) {
	f := twoExtents(t, super.Layout{Sectors: 60, Journal: 30})
	d := f.Drive().Device()
	ok(t, f.Commit(0, block(3, "new")))
	ok(t, f.Checkpoint())
	has(t, d, 36+4, full("new"))
	if waits(f) != 0 {
		t.Error(waits(f))
	}
	count := counted(d)
	ok(t, f.Checkpoint())
	if c := count(); c != [3]int{} {
		t.Error(c)
	}
}

// P10.4: behind a failure of the power the calls have errors, till the files are opened anew.
func TestOff(t *testing.T) {
	f := twoExtents(t, small)
	d := f.Drive().Device()
	d.Crash()
	for want := api.ErrPower; ; want = api.ErrState {
		if err := f.Commit(0, block(0, "a")); fault.Number(err) != want {
			t.Error(err)
		}
		if want == api.ErrState {
			break
		}
		d.Boot()
	}
	_, cut := f.Cut(0, 1)
	_, move := f.Move(0, 0)
	for _, err := range []error{f.Grow(0, 1), cut, move, f.Checkpoint()} {
		if fault.Number(err) != api.ErrState {
			t.Error(err)
		}
	}
	isInode(t, f, 0, 2, ext(first, 2), ext(first+3, 2))
	free(t, f.Free(), blocks-5)
	f = open(t, f.Drive())
	ok(t, f.Commit(0, block(0, "a")))
	isRead(t, f, 0, 0, "a")
}
