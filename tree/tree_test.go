package tree_test

import (
	"math"
	"slices"
	"testing"

	"posthorse/api"
	"posthorse/drive"
	"posthorse/fault"
	"posthorse/files"
	"posthorse/inode"
	"posthorse/look"
	"posthorse/mark"
	"posthorse/meta"
	"posthorse/page"
	"posthorse/super"
	"posthorse/tree"
)

// P16.1: what Make makes.
func TestMake(t *testing.T) {
	for file := range 4 {
		f := fresh(t, usual)
		ok(t, tree.Make(f, file))
		x := opened(t, f, file)
		isMeta(t, x, meta.Meta{})
		if g, n := x.Files(); g != f || n != file {
			t.Error(file, n)
		}
		if i := x.Inode(); i.Version != 1 || !slices.Equal(i.Extents, []inode.Extent{{At: 26, Len: 1}}) {
			t.Error(file, i)
		}
		if f.Free() != 73 {
			t.Error(f.Free())
		}
		if _, n := f.Journal().Room(); n != 3 { // committed, not written
			t.Error(n)
		}
		isHeld(t, x, 0, 0)
	}
}

// P16.1: what Make refuses, and what comes first.
func TestMakeWrong(t *testing.T) {
	f := fresh(t, super.Layout{Sectors: 17, Journal: 8}) // 3 blocks
	count := counted(f.Drive().Device())
	for _, file := range wrong {
		if err := tree.Make(f, file); err != api.ErrArg {
			t.Error(file, err)
		}
		if err := tree.Make(nil, file); err != api.ErrArg {
			t.Error(file, err)
		}
	}
	if err := tree.Make(nil, 0); err != api.ErrArg {
		t.Error(err)
	}
	f.Hold(inode.Extent{At: 14, Len: 3}, true)
	if err := tree.Make(f, 1); err != api.ErrSpace {
		t.Error(err)
	}
	if c := count(); c != [3]int{} {
		t.Error(c)
	}
	f.Hold(inode.Extent{At: 14, Len: 3}, false)
	ok(t, tree.Make(f, 1))
	ok(t, f.Grow(2, 2))
	x := opened(t, f, 1)
	count()
	for _, file := range []int{1, 2} { // also where no block is free
		if err := tree.Make(f, file); err != api.ErrExists {
			t.Error(file, err)
		}
	}
	if err := tree.Make(f, 3); err != api.ErrSpace {
		t.Error(err)
	}
	if c := count(); c != [3]int{} {
		t.Error(c)
	}
	isMeta(t, x, meta.Meta{})
}

// P16.1: of which file's block 0 there may be a tree.
func TestOpenWrong(t *testing.T) {
	f := fresh(t, usual)
	for _, file := range wrong {
		if x, err := tree.Open(f, file); x != nil || err != api.ErrArg {
			t.Error(file, err)
		}
	}
	if x, err := tree.Open(nil, 0); x != nil || err != api.ErrArg {
		t.Error(err)
	}
	if x, err := tree.Open(f, 0); x != nil || err != api.ErrNone {
		t.Error(err)
	}
	ok(t, f.Grow(0, 6))
	has := func(root int, used ...int) string {
		return sealedMeta(t, meta.Meta{Batch: 3, Tree: look.Tree{Root: root, Height: 1}, Keys: 2, Used: used})
	}
	for _, c := range []struct {
		name, s string
		want    error
	}{
		{"noughts", block(0, "").Data, api.ErrForm},
		{"a page", sealedPage(t, page.Page{}), api.ErrForm},
		{"a meta", has(1, 1), nil},
		{"a spoilt meta", spoilt(has(1, 1)), api.ErrSum},
		{"a byte that isn't 0", sealed(t, mark.Meta, has(1, 1)[4:15]+"\x01"), api.ErrForm},
		{"a root that isn't used", sealed(t, mark.Meta, "\x01\x00\x00\x00\x00\x00\x01\x00\x01\x01\x00\x00"), api.ErrCorrupt},
		{"the last block is used", has(5, 1, 5), nil},
		{"one behind it", has(5, 1, 5, 6), api.ErrCorrupt},
		{"the root behind it", has(6, 1, 6), api.ErrCorrupt},
		{"the last page of all", has(5, 5, 1023), api.ErrCorrupt},
		{"nothing", sealedMeta(t, meta.Meta{}), nil},
	} {
		laid(t, f, 0, 0, c.s)
		x, err := tree.Open(f, 0)
		if err != c.want || (x == nil) != (err != nil) {
			t.Error(c.name, err)
		}
	}
}

// P16.1: an error of the device is layer 10's Read's.
func TestOpenOff(t *testing.T) {
	x := made(t, usual)
	f := filesOf(x)
	deviceOf(x).Crash()
	opened(t, f, 0) // its block 0 waits in the journal
	deviceOf(x).Boot()
	f, err := files.Open(drive.New(deviceOf(x)))
	ok(t, err)
	deviceOf(x).Crash()
	y, err := tree.Open(f, 0)
	if y != nil {
		t.Error("a tree")
	}
	isFault(t, err, api.ErrPower, 26, "read")
}

// P16.1: Open finds the tree that the last batch made, whatever was opened before.
func TestOpenAgain(t *testing.T) {
	x := made(t, usual)
	want := fill(t, x, 60)
	m := x.Meta()
	for range 3 {
		if x = again(t, x); !sameMeta(x.Meta(), m) {
			t.Error(x.Meta())
		}
		agrees(t, x, want)
	}
	if m.Batch != 6 || m.Keys != 60 || m.Tree.Height != 2 {
		t.Error(m)
	}
}

// P16.1: what Meta and Inode tell is memory of its own.
func TestMemory(t *testing.T) {
	x := made(t, usual)
	want := fill(t, x, 30)
	m := x.Meta()
	m.Used[0], m.Keys = 99, 0
	x.Inode().Extents[0] = inode.Extent{At: 1, Len: 1}
	if x.Meta().Used[0] == 99 || x.Inode().Extents[0].At != 26 {
		t.Error(x.Meta(), x.Inode())
	}
	p, err := x.Page(x.Meta().Tree.Root)
	ok(t, err)
	p.Keys[1] = "z"
	agrees(t, x, want)
}

// P16.1 to P16.4: of a nil tree.
func TestNil(t *testing.T) {
	var x *tree.Tree
	if f, n := x.Files(); f != nil || n != 0 {
		t.Error("files")
	}
	if !sameMeta(x.Meta(), meta.Meta{}) || x.Inode().Version != 0 || len(x.Inode().Extents) != 0 {
		t.Error(x.Meta(), x.Inode())
	}
	if p, err := x.Page(0); p.Level != 0 || p.Keys != nil || err != api.ErrArg {
		t.Error(p, err)
	}
	if s, found, err := x.Get("a"); s != "" || found || err != api.ErrArg {
		t.Error(s, found, err)
	}
	if l, err := x.Scan("", ""); len(l) != 0 || err != api.ErrArg {
		t.Error(l, err)
	}
	for _, err := range []error{x.Batch(), x.Batch(put("a", "1")), x.Batch(put("", "")), x.Batch(make([]tree.Op, 17)...), x.Move(0), x.Move(-1)} {
		if err != api.ErrArg {
			t.Error(err)
		}
	}
	if n := x.Enter(); n != 0 {
		t.Error(n)
	}
	x.Leave(0)
	x.Leave(1)
	isHeld(t, x, 0, 0)
}

// P16.2: Page is what the block of that number has.
func TestPage(t *testing.T) {
	x := made(t, usual)
	fill(t, x, 40)
	f := filesOf(x)
	for _, n := range x.Meta().Used {
		p, err := x.Page(n)
		ok(t, err)
		if s, err := f.Read(0, n); s != sealedPage(t, p) || err != nil {
			t.Error(n, err)
		}
	}
	size := inode.Size(x.Inode())
	for _, n := range []int{math.MinInt, -1, size, size + 1, math.MaxInt} {
		if p, err := x.Page(n); len(p.Keys) != 0 || err != api.ErrNone {
			t.Error(n, p, err)
		}
	}
	if p, err := x.Page(0); len(p.Keys) != 0 || err != api.ErrForm { // the meta
		t.Error(p, err)
	}
	n := x.Meta().Used[0]
	s, err := f.Read(0, n)
	ok(t, err)
	laid(t, f, 0, n, spoilt(s))
	if p, err := x.Page(n); len(p.Keys) != 0 || err != api.ErrSum {
		t.Error(p, err)
	}
	laid(t, f, 0, n, sealed(t, mark.Page, "\x01\x01\x00\x00")) // an empty key
	if p, err := x.Page(n); len(p.Keys) != 0 || err != api.ErrCorrupt {
		t.Error(p, err)
	}
	deviceOf(x).Crash()
	_, err = x.Page(x.Meta().Used[1])
	isFault(t, err, api.ErrPower, 26+x.Meta().Used[1], "read")
}

// P16.2: Get and Scan, of the tree's own pages.
func TestGetScan(t *testing.T) {
	x := made(t, usual)
	if s, found, err := x.Get("a"); s != "" || found || err != nil {
		t.Error(s, found, err)
	}
	if l, err := x.Scan("", ""); len(l) != 0 || err != nil {
		t.Error(l, err)
	}
	want := fill(t, x, 50)
	count := counted(deviceOf(x))
	for k, v := range want {
		if s, found, err := x.Get(k); s != v || !found || err != nil {
			t.Error(k, s, found, err)
		}
		if c := count(); c != [3]int{2, 0, 0} {
			t.Error(c)
		}
	}
	for _, k := range []string{"", "k", key(50), key(7) + "x", "a key that is longer than any", "\xff"} {
		if s, found, err := x.Get(k); s != "" || found || err != nil {
			t.Error(k, s, found, err)
		}
	}
	all := entries(want)
	for _, c := range []struct {
		from, to string
		want     []look.Entry
	}{
		{"", "", all}, {key(20), "", all[20:]}, {"", key(20), all[:20]}, {key(13), key(31), all[13:31]},
		{key(13) + "x", key(31) + "x", all[14:32]}, {key(9), key(9), nil}, {key(9), key(3), nil}, {"z", "", nil},
	} {
		if l, err := x.Scan(c.from, c.to); !slices.Equal(l, c.want) || err != nil {
			t.Error(c.from, c.to, l, err)
		}
	}
}

// P16.2: errors of Get and Scan are layer 12's, of a page.
func TestGetScanWrong(t *testing.T) {
	x := made(t, usual)
	fill(t, x, 30)
	root, err := x.Page(x.Meta().Tree.Root)
	ok(t, err)
	f, n := filesOf(x), root.Kids[1]
	laid(t, f, 0, n, sealedPage(t, root)) // of another Level than it is to be
	s, found, err := x.Get(root.Keys[1])
	if s != "" || found {
		t.Error(s, found)
	}
	isFault(t, err, api.ErrCorrupt, n, "page")
	l, err := x.Scan("", "")
	if len(l) != 0 {
		t.Error(l)
	}
	isFault(t, err, api.ErrCorrupt, n, "page")
	if s, found, err := x.Get(key(0)); s != "v0" || !found || err != nil {
		t.Error(s, found, err)
	}
	if l, err := x.Scan("", root.Keys[1]); len(l) == 0 || err != nil {
		t.Error(l, err)
	}
	deviceOf(x).Crash()
	_, _, err = x.Get(key(0))
	if ops := fault.Ops(err); !slices.Equal(ops, []string{"page", "read"}) || fault.Number(err) != api.ErrPower {
		t.Error(err)
	}
	if _, err = x.Scan("", ""); fault.Number(err) != api.ErrPower {
		t.Error(err)
	}
}
