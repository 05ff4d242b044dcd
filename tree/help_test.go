package tree_test

import (
	"maps"
	"math"
	"slices"
	"strconv"
	"strings"
	"testing"

	"posthorse/api"
	"posthorse/drive"
	"posthorse/fault"
	"posthorse/files"
	"posthorse/inode"
	"posthorse/look"
	"posthorse/mark"
	"posthorse/meta"
	"posthorse/nvme"
	"posthorse/page"
	"posthorse/super"
	"posthorse/tree"
)

// wrong files: those that there are not.
var wrong = []int{math.MinInt, -1, 4, 5, 1 << 32, math.MaxInt}

// The device of most tests: 26 sectors are ahead of the 74 blocks.
var usual = super.Layout{Sectors: 100, Journal: 20}

func ok(t *testing.T, err error) {
	t.Helper()
	if err != nil {
		t.Fatal(err)
	}
}

// fresh files on a device that is as great as their layout.
func fresh(t *testing.T, l super.Layout) *files.Files {
	t.Helper()
	d, err := nvme.New(l.Sectors, 8)
	ok(t, err)
	v := drive.New(d)
	ok(t, files.Format(v, l))
	f, err := files.Open(v)
	ok(t, err)
	return f
}

// opened: the tree of a file.
func opened(t *testing.T, f *files.Files, file int) *tree.Tree {
	t.Helper()
	x, err := tree.Open(f, file)
	if err != nil || x == nil {
		t.Fatal(err)
	}
	return x
}

// made: a new tree in the file 0 of a new device.
func made(t *testing.T, l super.Layout) *tree.Tree {
	t.Helper()
	f := fresh(t, l)
	ok(t, tree.Make(f, 0))
	return opened(t, f, 0)
}

func filesOf(x *tree.Tree) *files.Files {
	f, _ := x.Files()
	return f
}

func deviceOf(x *tree.Tree) *nvme.Device { return filesOf(x).Drive().Device() }

// mounted: the tree in the file 0 of a device.
func mounted(t *testing.T, d *nvme.Device) *tree.Tree {
	t.Helper()
	f, err := files.Open(drive.New(d))
	ok(t, err)
	return opened(t, f, 0)
}

// again: the power fails, nothing is kept, and the tree is opened anew.
func again(t *testing.T, x *tree.Tree) *tree.Tree {
	t.Helper()
	d := deviceOf(x)
	d.Crash()
	d.Boot()
	return mounted(t, d)
}

// key of a number: such keys rise as their numbers do.
func key(i int) string { return "k" + strconv.Itoa(10000+i) }

func put(k, value string) tree.Op { return tree.Op{Key: k, Value: value} }

func del(k string) tree.Op { return tree.Op{Key: k, Delete: true} }

// puts of the keys of the numbers from one on, below another one.
func puts(from, to int) []tree.Op {
	var l []tree.Op
	for i := from; i < to; i++ {
		l = append(l, put(key(i), "v"+strconv.Itoa(i)))
	}
	return l
}

// fill a tree with the keys of the numbers from 0 on, batch by batch.
func fill(t *testing.T, x *tree.Tree, n int) map[string]string {
	t.Helper()
	want := map[string]string{}
	for l := range slices.Chunk(puts(0, n), 10) {
		ok(t, x.Batch(l...))
		apply(want, l)
	}
	return want
}

// apply operations to a map.
func apply(m map[string]string, l []tree.Op) {
	for _, o := range l {
		if o.Delete {
			delete(m, o.Key)
		} else {
			m[o.Key] = o.Value
		}
	}
}

// entries of a map, by rising keys.
func entries(m map[string]string) []look.Entry {
	var l []look.Entry
	for _, k := range slices.Sorted(maps.Keys(m)) {
		l = append(l, look.Entry{Key: k, Value: m[k]})
	}
	return l
}

// differs: in what a tree isn't as a map, or has other pages than its meta says; empty, where it is all right.
func differs(x *tree.Tree, want map[string]string) string {
	m := x.Meta()
	if l, err := x.Scan("", ""); err != nil || !slices.Equal(l, entries(want)) {
		return "entries"
	}
	if !meta.Right(m) || m.Keys != len(want) {
		return "meta"
	}
	l, err := look.Pages(x, m.Tree)
	slices.Sort(l)
	if err != nil || !slices.Equal(l, m.Used) {
		return "pages"
	}
	return ""
}

// agrees: is a tree as a map?
func agrees(t *testing.T, x *tree.Tree, want map[string]string) {
	t.Helper()
	if s := differs(x, want); s != "" {
		t.Error(s, x.Meta(), len(want))
	}
}

// sameMeta: are two metas the same?
func sameMeta(a, b meta.Meta) bool {
	return a.Batch == b.Batch && a.Tree == b.Tree && a.Keys == b.Keys && slices.Equal(a.Used, b.Used)
}

// isMeta: has a tree this meta, in memory and as its block 0?
func isMeta(t *testing.T, x *tree.Tree, want meta.Meta) {
	t.Helper()
	if !sameMeta(x.Meta(), want) {
		t.Errorf("%v, want %v", x.Meta(), want)
	}
	s, err := meta.Put(want)
	ok(t, err)
	f, file := x.Files()
	if b, err := f.Read(file, 0); b != s || err != nil {
		t.Error("block 0:", err)
	}
}

// isHeld: are so many pages and extents held?
func isHeld(t *testing.T, x *tree.Tree, pages, extents int) {
	t.Helper()
	if p, e := x.Held(); p != pages || e != extents {
		t.Errorf("held %d %d, want %d %d", p, e, pages, extents)
	}
}

// isFault: did an error come through these operations, of a number, the innermost one of them at a place?
func isFault(t *testing.T, err error, n api.Errno, at int, ops ...string) {
	t.Helper()
	x, _ := fault.Find(err)
	if fault.Number(err) != n || x.At != at || !slices.Equal(fault.Ops(err), ops) {
		t.Errorf("%v, want %v at %d of %v", err, n, at, ops)
	}
}

// laid: a block of a file has these bytes from now on.
func laid(t *testing.T, f *files.Files, file, at int, s string) {
	t.Helper()
	ok(t, f.Commit(file, files.Block{At: at, Data: s}))
}

func sealedMeta(t *testing.T, m meta.Meta) string {
	t.Helper()
	s, err := meta.Put(m)
	ok(t, err)
	return s
}

func sealedPage(t *testing.T, p page.Page) string {
	t.Helper()
	s, err := page.Put(p)
	ok(t, err)
	return s
}

func sealed(t *testing.T, kind int, body string) string {
	t.Helper()
	s, err := mark.Seal(kind, body)
	ok(t, err)
	return s
}

// spoilt: a sector one byte of which is another one.
func spoilt(s string) string { return s[:300] + string(s[300]^1) + s[301:] }

// block of data that is no sealed sector.
func block(at int, s string) files.Block {
	return files.Block{At: at, Data: s + strings.Repeat("\x00", api.Sector-len(s))}
}

// counted: how many reads, writes and flushes were completed since the last time.
func counted(d *nvme.Device) func() [3]int {
	var last [3]int
	tell := func() [3]int {
		var now [3]int
		now[0], now[1], now[2] = d.Counts()
		was := last
		last = now
		return [3]int{now[0] - was[0], now[1] - was[1], now[2] - was[2]}
	}
	tell()
	return tell
}

// view of a tree as it is now: which sectors its pages are, and what these have.
type view map[int]string

func viewOf(t *testing.T, x *tree.Tree) view {
	t.Helper()
	v, at := view{}, x.Inode()
	for _, n := range x.Meta().Used {
		sector, found := inode.Map(at, n)
		s, err := deviceOf(x).Look(sector)
		if _, perr := page.Get(s); !found || err != nil || perr != nil {
			t.Fatal("page", n, sector, err, perr)
		}
		v[sector] = s
	}
	return v
}

// stands: has a device still what it had?
func (v view) stands(d *nvme.Device) bool {
	for sector, want := range v {
		if s, err := d.Look(sector); s != want || err != nil {
			return false
		}
	}
	return true
}
