package files_test

import (
	"math"
	"slices"
	"strings"
	"testing"

	"posthorse/api"
	"posthorse/drive"
	"posthorse/fault"
	"posthorse/files"
	"posthorse/inode"
	"posthorse/mark"
	"posthorse/nvme"
	"posthorse/super"
)

// P10.1: what Format refuses.
func TestFormatWrong(t *testing.T) {
	came(t, files.Format(nil, small), api.ErrArg, "format")
	d, v := device(t, 40)
	for _, l := range []super.Layout{
		{}, {Sectors: 40, Journal: 7}, {Sectors: 40, Journal: 34}, {Sectors: 14, Journal: 8},
		{Sectors: 41, Journal: 8}, {Sectors: 2048, Journal: 8}, {Sectors: 2049, Journal: 8},
		{Sectors: math.MaxInt, Journal: 8}, {Sectors: math.MinInt, Journal: 8}, {Sectors: 40, Journal: math.MaxInt},
	} {
		came(t, files.Format(v, l), api.ErrArg, "format")
	}
	noughts := strings.Repeat("\x00", 512)
	if slices.ContainsFunc(state(t, d), func(s string) bool { return s != noughts }) {
		t.Error("something was written")
	}
	// What is refused anyhow is refused ahead of the device's own errors.
	d.Crash()
	came(t, files.Format(v, super.Layout{}), api.ErrArg, "format")
	came(t, files.Format(v, small), api.ErrPower, "format", "format", "read")
}

// P10.1: what the sectors have behind a Format.
func TestFormat(t *testing.T) {
	d, v := device(t, 50)
	for i := range 50 {
		force(t, v, i, full("old"))
	}
	count := counted(d)
	ok(t, files.Format(v, small))
	if c := count(); c != [3]int{ringSize - 1, 7, 1} {
		t.Error("reads, writes, flushes:", c)
	}
	has(t, d, 0, seal(t, mark.Super, "\x28\x00\x08\x00"))
	has(t, d, 1, seal(t, mark.Journal, "\x00\x00\x01\x00"))
	has(t, d, setAt, seal(t, mark.Bits, ""))
	for file := range 4 {
		has(t, d, inodesAt+file, seal(t, mark.Inode, ""))
	}
	for i := first; i < 50; i++ {
		has(t, d, i, full("old"))
	}
	d.Crash() // all of it lasts
	d.Boot()
	f := open(t, v)
	if f.Layout() != small || f.Drive() != v || f.Journal() == nil || f.Free() != blocks {
		t.Error(f.Layout(), f.Free())
	}
	for file := range 4 {
		isInode(t, f, file, 0)
	}
}

// P10.1: of an older journal nothing counts behind a Format, also where the new one is greater.
func TestFormatAgain(t *testing.T) {
	_, f := fresh(t, small)
	ok(t, f.Grow(0, 3))
	ok(t, f.Commit(0, block(0, "a")))
	ok(t, files.Format(f.Drive(), super.Layout{Sectors: 39, Journal: 9}))
	f = open(t, f.Drive())
	if f.Free() != 24 {
		t.Error(f.Free())
	}
	for file := range 4 {
		isInode(t, f, file, 0)
	}
}

// P10.1: wherever the power fails in Format, the superblock is there only when the rest is.
func TestFormatPower(t *testing.T) {
	for n := 1; ; n++ {
		for _, keep := range [][]int{nil, {1}, {1, 0}, {0, 1}, {0, 0, 1}} {
			d, v := device(t, 40)
			v.Choose(n, 2, 1)
			d.Fail(n, keep...)
			err := files.Format(v, small)
			if err == nil {
				return
			}
			if ops := fault.Ops(err); ops[0] != "format" || fault.Number(err) != api.ErrPower {
				t.Error(err)
			}
			d.Boot()
			f, err := files.Open(v)
			if err == nil && f.Free() != blocks || err != nil && f != nil {
				t.Error(n, keep, err)
			}
			if err != nil {
				came(t, err, api.ErrForm, "mount")
			}
		}
	}
}

// P10.1: Open of what isn't formatted, or of nothing.
func TestOpenWrong(t *testing.T) {
	f, err := files.Open(nil)
	came(t, err, api.ErrArg, "mount")
	if f != nil {
		t.Error("files of nothing")
	}
	d, v := device(t, 40)
	_, err = files.Open(v)
	came(t, err, api.ErrForm, "mount")
	d.Crash()
	_, err = files.Open(v)
	came(t, err, api.ErrPower, "mount", "read")
}

// P10.1: sectors that can't be those of files. Each one is laid onto a device on which the file 0 has the blocks 0 and 1, the file 2 the block 5.
func TestOpenForged(t *testing.T) {
	two, one := inodeOf(t, 1, ext(first, 2)), inodeOf(t, 1, ext(first+5, 1))
	taken := setOf(t, blocks, ext(0, 2), ext(5, 1))
	type sector struct {
		at int
		s  string
	}
	spoilt := func(s string) string { return s[:200] + "\x01" + s[201:] }
	for _, c := range []struct {
		name string
		l    []sector
		n    api.Errno
		ops  string
	}{
		{"as it should be", nil, 0, ""},
		{"no superblock", []sector{{0, full("")}}, api.ErrForm, "mount"},
		{"a spoilt superblock", []sector{{0, spoilt(seal(t, mark.Super, "\x28\x00\x08\x00"))}}, api.ErrSum, "mount"},
		{"a layout that isn't right", []sector{{0, seal(t, mark.Super, "\x28\x00\x07\x00")}}, api.ErrCorrupt, "mount"},
		{"more sectors than the device's", []sector{{0, seal(t, mark.Super, "\x29\x00\x08\x00")}}, api.ErrCorrupt, "mount"},
		{"no head", []sector{{1, full("")}}, api.ErrForm, "mount open"},
		{"a head ahead of the set", []sector{{1, full("")}, {setAt, spoilt(taken)}}, api.ErrForm, "mount open"},
		{"no set", []sector{{setAt, full("")}}, api.ErrForm, "mount"},
		{"a spoilt set", []sector{{setAt, spoilt(taken)}, {inodesAt, full("")}}, api.ErrSum, "mount"},
		{"a set of more blocks", []sector{{setAt, setOf(t, blocks+1, ext(0, 2), ext(5, 1), ext(blocks, 1))}}, api.ErrForm, "mount"},
		{"no inode", []sector{{inodesAt, full("")}}, api.ErrForm, "mount"},
		{"no last inode", []sector{{inodesAt + 3, full("")}}, api.ErrForm, "mount"},
		{"a spoilt inode", []sector{{inodesAt + 1, spoilt(two)}, {inodesAt + 2, full("")}}, api.ErrSum, "mount"},
		{"an inode beyond the device", []sector{{inodesAt + 1, inodeOf(t, 1, ext(40, 1))}}, api.ErrCorrupt, "mount"},
		{"the last inode", []sector{{inodesAt + 3, inodeOf(t, 0, ext(first+25, 1))}, {setAt, setOf(t, blocks, ext(0, 2), ext(5, 1), ext(25, 1))}}, 0, ""},
		{"a sector that is no block", []sector{{inodesAt + 1, inodeOf(t, 1, ext(first-1, 1))}}, api.ErrCorrupt, "mount"},
		{"sectors from the journal on", []sector{{inodesAt, inodeOf(t, 1, ext(8, 8))}}, api.ErrCorrupt, "mount"},
		{"a block that isn't taken", []sector{{inodesAt + 1, inodeOf(t, 1, ext(first+2, 1))}}, api.ErrCorrupt, "mount"},
		{"the last block isn't taken", []sector{{inodesAt + 3, inodeOf(t, 1, ext(first+25, 1))}}, api.ErrCorrupt, "mount"},
		{"a block of two files", []sector{{inodesAt + 3, inodeOf(t, 1, ext(first+1, 1))}}, api.ErrCorrupt, "mount"},
		{"a block that no file has", []sector{{setAt, setOf(t, blocks, ext(0, 3), ext(5, 1))}}, api.ErrCorrupt, "mount"},
		{"the last block, which no file has", []sector{{setAt, setOf(t, blocks, ext(0, 2), ext(5, 1), ext(25, 1))}}, api.ErrCorrupt, "mount"},
		{"the first block isn't taken", []sector{{setAt, setOf(t, blocks, ext(1, 1), ext(5, 1))}}, api.ErrCorrupt, "mount"},
		{"a file less", []sector{{inodesAt + 2, inodeOf(t, 3)}}, api.ErrCorrupt, "mount"},
		{"another order", []sector{{inodesAt, inodeOf(t, 9, ext(first+1, 1), ext(first+5, 1))}, {inodesAt + 2, inodeOf(t, 9, ext(first, 1))}}, 0, ""},
	} {
		_, v := device(t, 40)
		ok(t, files.Format(v, small))
		force(t, v, setAt, taken)
		force(t, v, inodesAt, two)
		force(t, v, inodesAt+2, one)
		for _, x := range c.l {
			force(t, v, x.at, x.s)
		}
		f, err := files.Open(v)
		if fault.Number(err) != c.n || strings.Join(fault.Ops(err), " ") != c.ops || (f == nil) != (err != nil) {
			t.Error(c.name, err)
		}
	}
}

// P10.1: the device may have more sectors than the layout: those are nobody's.
func TestOpenGreaterDevice(t *testing.T) {
	_, v := device(t, 60)
	ok(t, files.Format(v, small))
	force(t, v, setAt, setOf(t, blocks, ext(0, 1)))
	force(t, v, inodesAt, inodeOf(t, 1, ext(40, 1)))
	f, err := files.Open(v)
	came(t, err, api.ErrCorrupt, "mount")
	if f != nil {
		t.Error("files")
	}
}

// P10.1: what was committed, and isn't at its place as yet, is what Open finds.
func TestOpenReplays(t *testing.T) {
	d, f := fresh(t, small)
	ok(t, f.Grow(2, 3))
	has(t, d, setAt, setOf(t, blocks))
	has(t, d, inodesAt+2, inodeOf(t, 0))
	f = again(t, f)
	has(t, d, setAt, setOf(t, blocks, ext(0, 3)))
	has(t, d, inodesAt+2, inodeOf(t, 1, ext(first, 3)))
	isInode(t, f, 2, 1, ext(first, 3))
}

// P10.1: nothing is held behind an Open.
func TestOpenHoldsNothing(t *testing.T) {
	_, f := fresh(t, small)
	f.Hold(ext(first, blocks), true)
	if f.Free() != 0 || open(t, f.Drive()).Free() != blocks {
		t.Error(f.Free())
	}
}

// P10.1: of nil files.
func TestNil(t *testing.T) {
	var f *files.Files
	if f.Layout() != (super.Layout{}) || f.Drive() != nil || f.Journal() != nil || f.Free() != 0 {
		t.Error("nil files have something")
	}
	f.Hold(ext(first, 2), true)
	f.Hold(ext(first, 2), false)
	if x, err := f.Inode(0); x.Version != 0 || x.Extents != nil || err != api.ErrArg {
		t.Error("inode", x, err)
	}
	if free, err := f.Cut(0, 0); len(free) != 0 || err != api.ErrArg {
		t.Error("cut", free, err)
	}
	if was, err := f.Move(0, 0); was != (inode.Extent{}) || err != api.ErrArg {
		t.Error("move", was, err)
	}
	if s, err := f.Read(0, 0); s != "" || err != api.ErrArg {
		t.Error("read", s, err)
	}
	for name, err := range map[string]error{
		"grow": f.Grow(0, 1), "write": f.Write(0, block(0, "a")), "write nothing": f.Write(0),
		"commit": f.Commit(0, block(0, "a")), "checkpoint": f.Checkpoint(),
	} {
		if err != api.ErrArg {
			t.Error(name, err)
		}
	}
}

// P10.1: a drive that has choices makes the same.
func TestChoices(t *testing.T) {
	var want []string
	for _, choices := range [][]int{nil, {1}, {4, 0, 2}, {-1}} {
		d, err := nvme.New(40, 3)
		ok(t, err)
		v := drive.New(d)
		v.Choose(choices...)
		ok(t, files.Format(v, small))
		f := open(t, v)
		ok(t, f.Grow(1, 4))
		ok(t, f.Write(1, block(0, "a"), block(3, "b"), block(1, "c")))
		if _, err := f.Move(1, 0); err != nil {
			t.Error(err)
		}
		ok(t, f.Checkpoint())
		if want == nil {
			want = state(t, d)
		}
		if !slices.Equal(state(t, d), want) {
			t.Error(choices)
		}
	}
}
