package files_test

import (
	"math"
	"slices"
	"strings"
	"testing"

	"posthorse/api"
	"posthorse/bits"
	"posthorse/drive"
	"posthorse/fault"
	"posthorse/files"
	"posthorse/inode"
	"posthorse/mark"
	"posthorse/nvme"
	"posthorse/super"
)

// wrong files: those that there are not.
var wrong = []int{math.MinInt, -4, -1, 4, 5, 1 << 32, math.MaxInt}

// The device of most tests: 14 sectors are ahead of the 26 blocks.
const (
	ringSize = 8
	first    = 14
	blocks   = 26
	setAt    = 9
	inodesAt = 10
)

var small = super.Layout{Sectors: first + blocks, Journal: ringSize}

// full: a block that begins with a text, and whose last byte isn't 0.
func full(s string) string { return s + strings.Repeat("\x00", api.Sector-len(s)-1) + "\x07" }

func block(at int, s string) files.Block { return files.Block{At: at, Data: full(s)} }

func ext(at, n int) inode.Extent { return inode.Extent{At: at, Len: n} }

func device(t *testing.T, sectors int) (*nvme.Device, *drive.Drive) {
	t.Helper()
	d, err := nvme.New(sectors, 8)
	if err != nil {
		t.Fatal(err)
	}
	return d, drive.New(d)
}

func open(t *testing.T, v *drive.Drive) *files.Files {
	t.Helper()
	f, err := files.Open(v)
	if err != nil || f == nil {
		t.Fatal(err)
	}
	return f
}

// fresh files on a device that is as great as their layout.
func fresh(t *testing.T, l super.Layout) (*nvme.Device, *files.Files) {
	t.Helper()
	d, v := device(t, l.Sectors)
	ok(t, files.Format(v, l))
	return d, open(t, v)
}

func ok(t *testing.T, err error) {
	t.Helper()
	if err != nil {
		t.Fatal(err)
	}
}

// again: the power fails, nothing is kept, and the files are opened anew.
func again(t *testing.T, f *files.Files) *files.Files {
	t.Helper()
	d := f.Drive().Device()
	d.Crash()
	d.Boot()
	return open(t, f.Drive())
}

// isInode: is a file's inode this one?
func isInode(t *testing.T, f *files.Files, file, version int, l ...inode.Extent) {
	t.Helper()
	x, err := f.Inode(file)
	if err != nil || x.Version != version || !slices.Equal(x.Extents, l) {
		t.Errorf("inode %d: %v %v, want %d %v", file, x, err, version, l)
	}
}

// isRead: has a block this?
func isRead(t *testing.T, f *files.Files, file, at int, want string) {
	t.Helper()
	if s, err := f.Read(file, at); err != nil || s != full(want) {
		t.Errorf("file %d, block %d: %.8q %v, want %q", file, at, s, err, want)
	}
}

// has: does a sector of the device have this?
func has(t *testing.T, d *nvme.Device, sector int, want string) {
	t.Helper()
	if s, err := d.Look(sector); err != nil || s != want {
		t.Errorf("sector %d: %.16q %v, want %.16q", sector, s, err, want)
	}
}

// counted: how many reads, writes and flushes were completed since the last time.
func counted(d *nvme.Device) func() [3]int {
	var last [3]int
	tell := func() [3]int {
		var now [3]int
		now[0], now[1], now[2] = d.Counts()
		was := last
		last = now
		return [3]int{now[0] - was[0], now[1] - was[1], now[2] - was[2]}
	}
	tell()
	return tell
}

// waits: how many sectors wait for a checkpoint.
func waits(f *files.Files) int {
	_, n := f.Journal().Room()
	return n
}

func seal(t *testing.T, kind int, body string) string {
	t.Helper()
	s, err := mark.Seal(kind, body)
	if err != nil {
		t.Fatal(err)
	}
	return s
}

// setOf n blocks, as its sector: those of the extents, which tell blocks, are taken.
func setOf(t *testing.T, n int, l ...inode.Extent) string {
	t.Helper()
	set, err := bits.New(n)
	ok(t, err)
	for _, e := range l {
		ok(t, set.Take(e.At, e.Len))
	}
	s, err := set.Put()
	ok(t, err)
	return s
}

// inodeOf a version and extents, as its sector.
func inodeOf(t *testing.T, version int, l ...inode.Extent) string {
	t.Helper()
	s, err := inode.Put(inode.Inode{Version: version, Extents: l})
	ok(t, err)
	return s
}

// force a sector.
func force(t *testing.T, v *drive.Drive, sector int, s string) {
	t.Helper()
	ok(t, v.Force(drive.Put{Sector: sector, Data: s}))
}

// state of a device: all its sectors.
func state(t *testing.T, d *nvme.Device) []string {
	t.Helper()
	sectors, _ := d.Size()
	l := make([]string, sectors)
	for i := range l {
		s, err := d.Look(i)
		ok(t, err)
		l[i] = s
	}
	return l
}

// came: did an error come through these operations, the outermost first and at 0, of a number?
func came(t *testing.T, err error, n api.Errno, ops ...string) {
	t.Helper()
	f, isFault := err.(*fault.Fault)
	if !isFault || f.At != 0 || fault.Number(err) != n || !slices.Equal(fault.Ops(err), ops) {
		t.Errorf("%v, want %v of %v", err, n, ops)
	}
}
