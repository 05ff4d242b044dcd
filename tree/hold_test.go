package tree_test

import (
	"math"
	"slices"
	"testing"

	"posthorse/api"
	"posthorse/fault"
	"posthorse/files"
	"posthorse/inode"
	"posthorse/super"
	"posthorse/tree"
)

// P16.4: what Move refuses is layer 10's, and nothing is held behind it.
func TestMoveWrong(t *testing.T) {
	x := made(t, super.Layout{Sectors: 14 + 8, Journal: 8})
	want := fill(t, x, 20)
	x.Enter()
	was := x.Inode()
	for _, i := range []int{math.MinInt, -1, len(was.Extents), 36, math.MaxInt} {
		if err := x.Move(i); err != api.ErrArg {
			t.Error(i, err)
		}
	}
	if err := x.Move(0); err != api.ErrSpace || was.Extents[0].Len < 5 {
		t.Error(err, was)
	}
	isHeld(t, x, 0, 0)
	if now := x.Inode(); now.Version != was.Version {
		t.Error(now)
	}
	agrees(t, x, want)
	deviceOf(x).Crash()
	if err := x.Move(0); fault.Number(err) != api.ErrSpace {
		t.Error(err)
	}
}

// P16.4: an error of the device, and nothing is held behind it.
func TestMoveOff(t *testing.T) {
	x := made(t, usual)
	want := fill(t, x, 20)
	ok(t, filesOf(x).Checkpoint())
	x.Enter()
	free := filesOf(x).Free()
	deviceOf(x).Crash()
	isFault(t, x.Move(0), api.ErrPower, 26, "read")
	isHeld(t, x, 0, 0)
	if n := filesOf(x).Free(); n != free {
		t.Error(n)
	}
	deviceOf(x).Boot()
	agrees(t, mounted(t, deviceOf(x)), want)
}

// P16.4: where nobody is inside what an extent left may be used at once.
func TestMoveFree(t *testing.T) {
	x := made(t, usual)
	want := fill(t, x, 40)
	f, was := filesOf(x), x.Inode()
	free := f.Free()
	for i := range 6 {
		ok(t, x.Move(0))
		isHeld(t, x, 0, 0)
		if f.Free() != free {
			t.Error(f.Free())
		}
		now, at := x.Inode(), was.Extents[0].At
		if i%2 == 0 {
			at += was.Extents[0].Len
		}
		if now.Version != was.Version+i+1 || now.Extents[0] != (inode.Extent{At: at, Len: was.Extents[0].Len}) {
			t.Error(now)
		}
		agrees(t, x, want)
	}
	agrees(t, again(t, x), want)
}

// P16.4: an extent that was left while somebody was inside is used for nothing till they have left, by no file.
func TestMoveHeld(t *testing.T) {
	x := made(t, usual)
	want := fill(t, x, 40)
	f, was, then := filesOf(x), x.Inode(), viewOf(t, x)
	free, n := f.Free(), was.Extents[0].Len
	a := x.Enter()
	ok(t, x.Move(0))
	isHeld(t, x, 0, 1)
	if f.Free() != free-n {
		t.Error(f.Free())
	}
	b := x.Enter()
	ok(t, x.Move(0)) // not to where it was
	isHeld(t, x, 0, 2)
	if at := x.Inode().Extents[0].At; at != was.Extents[0].At+2*n {
		t.Error(at)
	}
	ok(t, f.Grow(1, f.Free())) // all that is left
	for i := range inode.Size(mustInode(t, f, 1)) {
		ok(t, f.Write(1, block(i, "other")))
	}
	if !then.stands(deviceOf(x)) {
		t.Error("pages of the tree as it was")
	}
	if err := x.Move(0); err != api.ErrSpace {
		t.Error(err)
	}
	x.Leave(0)
	x.Leave(b + 1)
	x.Leave(b)
	isHeld(t, x, 0, 2)
	if f.Free() != 0 {
		t.Error(f.Free())
	}
	x.Leave(a)
	isHeld(t, x, 0, 0)
	if f.Free() != 2*n {
		t.Error(f.Free())
	}
	ok(t, x.Move(0))
	if at := x.Inode().Extents[0]; at != was.Extents[0] {
		t.Error(at)
	}
	agrees(t, x, want)
}

func mustInode(t *testing.T, f *files.Files, file int) inode.Inode {
	t.Helper()
	x, err := f.Inode(file)
	ok(t, err)
	return x
}

// P16.4: what two extents left is let go by itself, each when those are gone who were inside then.
func TestMoveLeftOneByOne(t *testing.T) {
	x := made(t, usual)
	fill(t, x, 20)
	f := filesOf(x)
	a := x.Enter()
	ok(t, x.Move(0))
	b := x.Enter()
	ok(t, x.Move(0))
	n := x.Inode().Extents[0].Len
	free := f.Free()
	x.Leave(a)
	isHeld(t, x, 0, 1)
	if f.Free() != free+n {
		t.Error(f.Free())
	}
	x.Leave(b)
	x.Leave(b)
	isHeld(t, x, 0, 0)
	if f.Free() != free+2*n {
		t.Error(f.Free())
	}
}

// P16.4: tickets are layer 15's.
func TestTickets(t *testing.T) {
	x := made(t, usual)
	for i := range 4 {
		if n := x.Enter(); n != i+1 {
			t.Error(n)
		}
	}
	x.Leave(4)
	x.Leave(2)
	if n := x.Enter(); n != 5 {
		t.Error(n)
	}
	for _, n := range []int{math.MinInt, 0, 2, 6, math.MaxInt} {
		x.Leave(n)
	}
	ok(t, x.Batch(put("a", "1")))
	ok(t, x.Batch(put("a", "2")))
	ok(t, x.Move(0))
	isHeld(t, x, 1, 1)
	for _, n := range []int{1, 3} {
		x.Leave(n)
		isHeld(t, x, 1, 1)
	}
	x.Leave(5)
	isHeld(t, x, 0, 0)
}

// P16.5: somebody who is inside finds the pages where they were, whatever batches and moves come; a page that was dropped stands in the file's new place, too.
func TestInside(t *testing.T) {
	x := made(t, super.Layout{Sectors: 400, Journal: 20})
	want := fill(t, x, 60)
	d := deviceOf(x)
	then, at, m := viewOf(t, x), x.Inode(), x.Meta()
	ticket := x.Enter()
	for i := range 8 {
		l := []tree.Op{put(key(7*i), "x"), del(key(59 - i)), put(key(100+i), "y")}
		ok(t, x.Batch(l...))
		apply(want, l)
		if i%3 == 1 {
			ok(t, x.Move(i%len(x.Inode().Extents)))
		}
		if !then.stands(d) {
			t.Error(i, "pages where they were")
		}
		for _, n := range m.Used {
			sector, _ := inode.Map(at, n)
			if p, err := x.Page(n); err != nil || sealedPage(t, p) != then[sector] {
				t.Error(i, n, "page of the file as it is")
			}
		}
		agrees(t, x, want)
	}
	x.Leave(ticket)
	isHeld(t, x, 0, 0)
	f := filesOf(x)
	ok(t, f.Grow(1, f.Free())) // now all of it may be used again
	for i := range inode.Size(mustInode(t, f, 1)) {
		ok(t, f.Write(1, block(i, "other")))
	}
	if then.stands(d) {
		t.Error("nothing was used again")
	}
	agrees(t, x, want)
}

// P16.4: what was held isn't any more behind an Open.
func TestOpenHoldsNothing(t *testing.T) {
	x := made(t, usual)
	want := fill(t, x, 20)
	x.Enter()
	ok(t, x.Batch(del(key(1))))
	delete(want, key(1))
	ok(t, x.Move(0))
	n := inode.Size(x.Inode())
	x = again(t, x)
	isHeld(t, x, 0, 0)
	if f := filesOf(x); f.Free() != 74-n {
		t.Error(f.Free())
	}
	agrees(t, x, want)
	if !slices.Contains(x.Meta().Used, x.Meta().Tree.Root) {
		t.Error(x.Meta())
	}
}
