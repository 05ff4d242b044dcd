package tree_test

import (
	"maps"
	"slices"
	"strings"
	"testing"

	"posthorse/api"
	"posthorse/fault"
	"posthorse/inode"
	"posthorse/look"
	"posthorse/meta"
	"posthorse/page"
	"posthorse/super"
	"posthorse/tree"
)

// rooted: the meta of a tree of one leaf.
func rooted(batch, root, keys int) meta.Meta {
	return meta.Meta{Batch: batch, Tree: look.Tree{Root: root, Height: 1}, Keys: keys, Used: []int{root}}
}

// P16.3: what Batch refuses as too long, wherever it stands, and ahead of everything else.
func TestBatchLong(t *testing.T) {
	x := made(t, usual)
	want := fill(t, x, 12)
	d := deviceOf(x)
	count := counted(d)
	long := strings.Repeat("k", 17)
	for _, o := range []tree.Op{put("", "v"), put(long, "v"), put("a", strings.Repeat("v", 25)), del(""), del(long), put(strings.Repeat("k", 70000), ""), {Value: strings.Repeat("v", 70000), Delete: true}} {
		for _, l := range [][]tree.Op{{o}, {put("a", "1"), o}, {o, put("a", "1")}, append(puts(0, 15), o)} {
			was := slices.Clone(l)
			if err := x.Batch(l...); err != api.ErrLong || !slices.Equal(l, was) {
				t.Error(l, err)
			}
		}
	}
	for _, n := range []int{17, 18, 1000} {
		if err := x.Batch(puts(0, n)...); err != api.ErrLong {
			t.Error(n, err)
		}
		if err := x.Batch(slices.Repeat([]tree.Op{del("z")}, n)...); err != api.ErrLong {
			t.Error(n, err)
		}
	}
	d.Crash()
	if err := x.Batch(put("a", "1"), del("")); err != api.ErrLong {
		t.Error(err)
	}
	d.Boot()
	if c := count(); c != [3]int{} {
		t.Error(c)
	}
	agrees(t, x, want)
}

// P16.3: the longest that there may be. A delete's value is nobody's.
func TestBatchLongest(t *testing.T) {
	x := made(t, usual)
	want := map[string]string{}
	l := append(puts(0, 14), put(strings.Repeat("k", 16), strings.Repeat("v", 24)), put("\x00", ""))
	ok(t, x.Batch(l...))
	apply(want, l)
	agrees(t, x, want)
	ok(t, x.Batch(tree.Op{Key: key(3), Value: strings.Repeat("v", 25), Delete: true}))
	delete(want, key(3))
	agrees(t, x, want)
	agrees(t, again(t, x), want)
}

// P16.3: operations are done one after the other.
func TestBatchOrder(t *testing.T) {
	x := made(t, usual)
	ok(t, x.Batch(put("a", "1"), put("a", "2"), put("b", "1"), del("b"), del("c"), put("c", "3"), put("d", "4"), del("d"), put("d", "5")))
	agrees(t, x, map[string]string{"a": "2", "c": "3", "d": "5"})
	ok(t, x.Batch(del("a"), del("a"), put("a", "6"), del("d"), put("c", "3")))
	agrees(t, x, map[string]string{"a": "6", "c": "3"})
	isMeta(t, x, rooted(2, 2, 2))
}

// P16.3: where nothing is changed the batch is none.
func TestBatchNothing(t *testing.T) {
	x := made(t, usual)
	count := counted(deviceOf(x))
	ok(t, x.Batch())
	ok(t, x.Batch([]tree.Op{}...))
	ok(t, x.Batch(del("a"), del("b")))
	ok(t, x.Batch(put("a", "1"), put("b", "1"), del("b"), del("a")))
	isMeta(t, x, meta.Meta{})
	if c := count(); c != [3]int{} {
		t.Error(c)
	}
	ok(t, x.Batch(put("a", "1")))
	count()
	ok(t, x.Batch())
	ok(t, x.Batch(del("b"), del("c"), del("b")))
	if c := count(); c != [3]int{3, 0, 0} {
		t.Error(c)
	}
	isMeta(t, x, rooted(1, 1, 1))
	ok(t, x.Batch(put("a", "1"))) // the same value: a page is fresh all the same
	isMeta(t, x, rooted(2, 2, 1))
}

// P16.3: the numbers of new pages: unused ones by rising numbers, not held ones, then those behind the file's end.
func TestBatchNumbers(t *testing.T) {
	x := made(t, usual)
	size := func(want int) {
		t.Helper()
		if n := inode.Size(x.Inode()); n != want {
			t.Errorf("size %d, want %d", n, want)
		}
	}
	size(1)
	ok(t, x.Batch(put("a", "1")))
	isMeta(t, x, rooted(1, 1, 1))
	size(2)
	ok(t, x.Batch(put("b", "1")))
	isMeta(t, x, rooted(2, 2, 2))
	size(3)
	ok(t, x.Batch(put("c", "1")))
	isMeta(t, x, rooted(3, 1, 3))
	a := x.Enter()
	ok(t, x.Batch(put("d", "1"))) // 1 is held from now on
	isMeta(t, x, rooted(4, 2, 4))
	isHeld(t, x, 1, 0)
	size(3)
	ok(t, x.Batch(del("a"))) // 2, too
	isMeta(t, x, rooted(5, 3, 3))
	isHeld(t, x, 2, 0)
	size(4)
	b := x.Enter()
	x.Leave(a)
	isHeld(t, x, 0, 0)
	ok(t, x.Batch(del("b"))) // 3 is held
	isMeta(t, x, rooted(6, 1, 2))
	isHeld(t, x, 1, 0)
	ok(t, x.Batch(del("c"))) // 1, too
	isMeta(t, x, rooted(7, 2, 1))
	x.Leave(b)
	ok(t, x.Batch(put("a", "2")))
	isMeta(t, x, rooted(8, 1, 2))
	size(4)
	// Two leaves take 2 and 3, the root above them is behind the file's end.
	ok(t, x.Batch(puts(0, 10)...))
	if m := x.Meta(); m.Tree != (look.Tree{Root: 4, Height: 2}) || !slices.Equal(m.Used, []int{2, 3, 4}) {
		t.Error(m)
	}
	size(5)
	// On the way it takes 1, 5 and 6, but only 1 is fresh in the end: the file needn't grow.
	ok(t, x.Batch(append(puts(0, 10), del("a"), del("d"))...))
	isMeta(t, x, rooted(10, 1, 10))
	size(5)
	// The leaves take 2, 3, 5 and 6, the root above them 4: what the file has comes ahead of what is behind its end.
	ok(t, x.Batch(puts(10, 26)...))
	if m := x.Meta(); m.Tree != (look.Tree{Root: 4, Height: 2}) || !slices.Equal(m.Used, []int{2, 3, 4, 5, 6}) {
		t.Error(m)
	}
	size(7)
}

// P16.3: the last entry goes: nothing is fresh, and all pages are dropped.
func TestBatchAllGone(t *testing.T) {
	x := made(t, usual)
	want := fill(t, x, 30)
	used := len(x.Meta().Used)
	ticket := x.Enter()
	for l := range slices.Chunk(slices.Sorted(maps.Keys(want)), 16) {
		var ops []tree.Op
		for _, k := range l {
			ops = append(ops, del(k))
		}
		ok(t, x.Batch(ops...))
	}
	isMeta(t, x, meta.Meta{Batch: 5})
	agrees(t, x, nil)
	if p, _ := x.Held(); p < used {
		t.Error(p)
	}
	x.Leave(ticket)
	x = again(t, x)
	isMeta(t, x, meta.Meta{Batch: 5})
	ok(t, x.Batch(put("a", "1")))
	isMeta(t, x, rooted(6, 1, 1))
}

// P16.3: only what is dropped while somebody is inside is held.
func TestBatchHeld(t *testing.T) {
	x := made(t, usual)
	fill(t, x, 40)
	ok(t, x.Batch(put(key(1), "x")))
	isHeld(t, x, 0, 0)
	a := x.Enter()
	ok(t, x.Batch(put(key(1), "y"))) // a leaf and the root
	isHeld(t, x, 2, 0)
	b := x.Enter()
	ok(t, x.Batch(put(key(1), "z"), put(key(2), "z")))
	isHeld(t, x, 4, 0)
	x.Leave(b)
	isHeld(t, x, 4, 0)
	x.Leave(a)
	isHeld(t, x, 0, 0)
}

// P16.3: an error of a page on the way.
func TestBatchPage(t *testing.T) {
	x := made(t, usual)
	want := fill(t, x, 30)
	root, err := x.Page(x.Meta().Tree.Root)
	ok(t, err)
	f, n, m := filesOf(x), root.Kids[1], x.Meta()
	was, err := f.Read(0, n)
	ok(t, err)
	laid(t, f, 0, n, spoilt(was))
	ok(t, f.Checkpoint())
	count := counted(deviceOf(x))
	isFault(t, x.Batch(put("a", "1"), put(root.Keys[1], "x")), api.ErrSum, n, "page")
	isFault(t, x.Batch(put("a", "1"), del(root.Keys[1])), api.ErrSum, n, "page")
	if c := count(); c[1] != 0 || c[2] != 0 {
		t.Error(c)
	}
	isMeta(t, x, m)
	ok(t, x.Batch(put("a", "1"))) // elsewhere it goes on
	want["a"] = "1"
	laid(t, f, 0, n, was)
	agrees(t, x, want)
}

// P16.3: where there is no room for the fresh pages the tree is as it was, and so is the file.
func TestBatchSpace(t *testing.T) {
	x := made(t, super.Layout{Sectors: 14 + 8, Journal: 8})
	want := fill(t, x, 20)
	ticket := x.Enter()
	refused := false
	for i := 0; i < 30 && !refused; i++ {
		m, inodeWas, free := x.Meta(), x.Inode(), filesOf(x).Free()
		p, e := x.Held()
		l := []tree.Op{put(key(i%20), "x"), put(key(19-i%20), "y"), del("nothing")}
		if err := x.Batch(l...); err == nil {
			apply(want, l)
			continue
		} else if err != api.ErrSpace || i == 0 {
			t.Fatal(i, err)
		}
		if x.Inode().Version != inodeWas.Version || filesOf(x).Free() != free {
			t.Error(x.Inode())
		}
		isMeta(t, x, m)
		isHeld(t, x, p, e)
		refused = true
	}
	if !refused {
		t.Error("there was always room")
	}
	agrees(t, x, want)
	x.Leave(ticket)
	ok(t, x.Batch(put("a", "1")))
	want["a"] = "1"
	agrees(t, x, want)
	agrees(t, again(t, x), want)
}

// P16.3: an extent too many for the file is an error of its growth.
func TestBatchExtents(t *testing.T) {
	f := fresh(t, super.Layout{Sectors: 200, Journal: 20})
	for i := range 87 {
		f.Hold(inode.Extent{At: 27 + 2*i, Len: 1}, true) // every second block
	}
	ok(t, tree.Make(f, 0))
	x := opened(t, f, 0)
	want := map[string]string{}
	var err error
	for i := 0; i < 1000 && err == nil; i += 4 {
		if err = x.Batch(puts(i, i+4)...); err == nil {
			apply(want, puts(i, i+4))
		}
	}
	if err != api.ErrExtents || len(x.Inode().Extents) < 30 {
		t.Error(err, len(x.Inode().Extents))
	}
	agrees(t, x, want)
	agrees(t, again(t, x), want)
}

// P16.3: no page has a number of MaxPages or more.
func TestBatchMaxPages(t *testing.T) {
	x := made(t, super.Layout{Sectors: 2048, Journal: 100})
	want := map[string]string{}
	var err error
	for i := 0; i < 20000 && err == nil; i += 16 {
		if err = x.Batch(puts(i, i+16)...); err == nil {
			apply(want, puts(i, i+16))
		}
	}
	if err != api.ErrSpace {
		t.Error(err)
	}
	size := inode.Size(x.Inode())
	if m := x.Meta(); size > 1024 || size < 1000 || len(m.Used) < 1000 || m.Keys != len(want) {
		t.Error(size, len(m.Used), m.Keys)
	}
	agrees(t, x, want)
	if filesOf(x).Free() < 500 {
		t.Error(filesOf(x).Free())
	}
	x = again(t, x)
	agrees(t, x, want)
	ok(t, x.Batch(del(key(5)))) // where there are numbers enough it goes on
	delete(want, key(5))
	agrees(t, x, want)
}

// P16.3: Next's error, as it comes: behind it the tree is as it was, though the file has grown.
func TestBatchLast(t *testing.T) {
	x := made(t, usual)
	f := filesOf(x)
	last := meta.Meta{Batch: 1<<48 - 2}
	laid(t, f, 0, 0, sealedMeta(t, last))
	x = opened(t, f, 0)
	ok(t, x.Batch(put("a", "1")))
	m := rooted(1<<48-1, 1, 1)
	isMeta(t, x, m)
	ticket := x.Enter()
	if err := x.Batch(put("b", "1")); err != api.ErrArg {
		t.Error(err)
	}
	if err := x.Batch(del("a")); err != api.ErrArg {
		t.Error(err)
	}
	isMeta(t, x, m)
	isHeld(t, x, 0, 0)
	x.Leave(ticket)
	if n := inode.Size(x.Inode()); n != 3 {
		t.Error(n)
	}
	agrees(t, x, map[string]string{"a": "1"})
	ok(t, x.Batch(del("b")))
	agrees(t, again(t, x), map[string]string{"a": "1"})
}

// P16.3: only what was committed tells of fresh pages; they last ahead of it, at the places that the file has for them.
func TestBatchWrites(t *testing.T) {
	x := made(t, usual)
	fill(t, x, 30)
	ok(t, filesOf(x).Checkpoint())
	was := viewOf(t, x)
	count := counted(deviceOf(x))
	ok(t, x.Batch(put(key(0), "x"))) // a leaf and the root are read, and written; the meta is committed
	if c := count(); c != [3]int{2, 2 + 3, 2} {
		t.Error(c)
	}
	for sector, s := range was {
		if now, err := deviceOf(x).Look(sector); now != s || err != nil {
			t.Error(sector, err)
		}
	}
	root := x.Meta().Tree.Root
	for _, n := range []int{root, x.Meta().Used[0]} {
		p, err := x.Page(n)
		ok(t, err)
		sector, _ := inode.Map(x.Inode(), n)
		if s, err := deviceOf(x).Look(sector); s != sealedPage(t, p) || err != nil {
			t.Error(n, err)
		}
	}
}

// P16.3: errors of the device come as they are, and a tree of which they came is as it was.
func TestBatchOff(t *testing.T) {
	x := made(t, usual)
	want := fill(t, x, 30)
	m := x.Meta()
	deviceOf(x).Crash()
	ok(t, x.Batch())
	err := x.Batch(put("a", "1"))
	if fault.Number(err) != api.ErrPower || !slices.Equal(fault.Ops(err), []string{"page", "read"}) {
		t.Error(err)
	}
	if !sameMeta(x.Meta(), m) {
		t.Error(x.Meta())
	}
	deviceOf(x).Boot()
	x = mounted(t, deviceOf(x))
	agrees(t, x, want)
}

// Two trees on one device don't meet.
func TestTwoTrees(t *testing.T) {
	f := fresh(t, usual)
	ok(t, tree.Make(f, 2))
	ok(t, tree.Make(f, 1))
	a, b := opened(t, f, 2), opened(t, f, 1)
	wantA, wantB := map[string]string{}, map[string]string{}
	for i := range 12 {
		la, lb := puts(5*i, 5*i+6), append(puts(90-4*i, 98-4*i), del(key(90)))
		ok(t, a.Batch(la...))
		ok(t, b.Batch(lb...))
		apply(wantA, la)
		apply(wantB, lb)
		ticket := a.Enter()
		ok(t, a.Move(0))
		isHeld(t, a, 0, 1)
		isHeld(t, b, 0, 0)
		a.Leave(ticket)
	}
	agrees(t, a, wantA)
	agrees(t, b, wantB)
	if p, err := a.Page(a.Meta().Tree.Root); err != nil || !page.Right(p) {
		t.Error(err)
	}
}
