package inode_test

import (
	"encoding/binary"
	"math"
	"math/rand"
	"slices"
	"strings"
	"testing"

	"posthorse/api"
	"posthorse/inode"
	"posthorse/mark"
)

const lastVersion = 1<<48 - 1

// of: an inode of a version and of extents, two numbers each.
func of(version int, l ...int) inode.Inode {
	x := inode.Inode{Version: version}
	for i := 0; i < len(l); i += 2 {
		x.Extents = append(x.Extents, inode.Extent{At: l[i], Len: l[i+1]})
	}
	return x
}

// many extents of one sector each, none beside another.
func many(n int) inode.Inode {
	var x inode.Inode
	for i := range n {
		x.Extents = append(x.Extents, inode.Extent{At: 3 * i, Len: 1})
	}
	return x
}

func same(x, y inode.Inode) bool {
	return x.Version == y.Version && slices.Equal(x.Extents, y.Extents)
}

// spare: the inode with room behind its extents, and a look whether all of it is as it was.
func spare(x inode.Inode) (inode.Inode, func() bool) {
	room := make([]inode.Extent, len(x.Extents)+3)
	for i := range room {
		room[i] = inode.Extent{At: -7, Len: -8}
	}
	copy(room, x.Extents)
	was := slices.Clone(room)
	return inode.Inode{Version: x.Version, Extents: room[:len(x.Extents)]}, func() bool { return slices.Equal(room, was) }
}

// P8.1: which inodes are right, for which devices.
func TestRight(t *testing.T) {
	for _, c := range []struct {
		x       inode.Inode
		sectors int
		want    bool
	}{
		{of(0), 1, true},
		{of(0), 2048, true},
		{of(0), 0, false},
		{of(0), -1, false},
		{of(0), 2049, false},
		{of(0), math.MaxInt, false},
		{of(0), math.MinInt, false},
		{of(lastVersion, 0, 1), 1, true},
		{of(lastVersion+1, 0, 1), 1, false},
		{of(-1, 0, 1), 1, false},
		{of(math.MaxInt), 1, false},
		{of(math.MinInt), 1, false},
		{of(0, 0, 1), 1, true},
		{of(0, 1, 1), 1, false},
		{of(0, 0, 2), 1, false},
		{of(0, 0, 2), 2, true},
		{of(0, 0, 0), 2, false},
		{of(0, 0, -1), 2, false},
		{of(0, -1, 1), 2, false},
		{of(0, -1, 2), 2, false},
		{of(0, 2047, 1), 2048, true},
		{of(0, 2047, 2), 2048, false},
		{of(0, 0, 2048), 2048, true},
		{of(0, 0, 2049), 2048, false},
		{of(0, 2, math.MaxInt), 2048, false},
		{of(0, math.MaxInt, 1), 2048, false},
		{of(0, math.MaxInt, math.MaxInt), 2048, false},
		{of(0, math.MinInt, math.MinInt), 2048, false},
		{of(0, math.MinInt, math.MaxInt), 2048, false},
		{of(0, 10, 2, 20, 3), 23, true},
		{of(0, 10, 2, 20, 3), 22, false},
		{of(0, 20, 3, 10, 2), 23, true},
		{of(0, 20, 3, 10, 2), 22, false},
		{of(0, 10, 2, 12, 3), 15, true},
		{of(0, 10, 2, 11, 3), 15, false},
		{of(0, 10, 2, 8, 2), 15, true},
		{of(0, 10, 2, 8, 3), 15, false},
		{of(0, 10, 2, 10, 2), 15, false},
		{of(0, 10, 5, 11, 1), 15, false},
		{of(0, 11, 1, 10, 5), 15, false},
		{of(0, 1, 2, 5, 2, 9, 2, 6, 1), 15, false},
		{of(0, 1, 2, 5, 2, 9, 2, 7, 2), 15, true},
		{many(api.MaxExtents), 2048, true},
		{many(api.MaxExtents + 1), 2048, false},
	} {
		if got := inode.Right(c.x, c.sectors); got != c.want {
			t.Error(c, got)
		}
	}
}

// P8.1: blocks, sectors, and back.
func TestMapBlock(t *testing.T) {
	for _, x := range []inode.Inode{of(0), of(3, 0, 1), of(0, 10, 2, 20, 3), of(1, 20, 3, 10, 2, 12, 1, 0, 4), of(lastVersion, 0, 2048), many(api.MaxExtents)} {
		var sectors []int
		for _, e := range x.Extents {
			for k := range e.Len {
				sectors = append(sectors, e.At+k)
			}
		}
		if n := inode.Size(x); n != len(sectors) {
			t.Error(n, len(sectors))
		}
		for block, want := range sectors {
			if s, ok := inode.Map(x, block); s != want || !ok {
				t.Error(block, s, ok)
			}
		}
		for _, block := range []int{-1, -2, len(sectors), len(sectors) + 1, math.MinInt, math.MaxInt} {
			if s, ok := inode.Map(x, block); s != 0 || ok {
				t.Error(block, s, ok)
			}
		}
		for sector := -3; sector < 2060; sector++ {
			want := slices.Index(sectors, sector)
			if b, ok := inode.Block(x, sector); ok != (want >= 0) || b != max(want, 0) {
				t.Error(sector, b, ok)
			}
		}
		for _, sector := range []int{math.MinInt, math.MaxInt, -1 << 32, 1 << 32} {
			if b, ok := inode.Block(x, sector); b != 0 || ok {
				t.Error(sector, b, ok)
			}
		}
	}
	if s, ok := inode.Map(of(0, 10, 2, 20, 3), 3); s != 21 || !ok {
		t.Error(s, ok)
	}
}

// P8.1: Map of inodes that aren't right.
func TestMapNotRight(t *testing.T) {
	big := 1 << 62
	for _, c := range []struct {
		x           inode.Inode
		block, want int
		ok          bool
	}{
		{of(0, 10, 2, 11, 3), 1, 11, true}, // a sector twice
		{of(0, 10, 2, 11, 3), 2, 11, true},
		{of(0, 10, 2, 11, 3), 5, 0, false},
		{of(-4, 10, 2), 1, 11, true},
		{of(1<<50, 10, 2), 1, 11, true},
		{of(0, -5, 3, 4000, 9), 0, -5, true},
		{of(0, -5, 3, 4000, 9), 2, -3, true},
		{of(0, -5, 3, 4000, 9), 11, 4008, true},
		{of(0, 0, big, 5, big, 7, big), big + 3, 8, true}, // more blocks than an int can count
		{of(0, 0, big, 5, big, 7, big), math.MaxInt, 5 + big - 1, true},
		{many(100), 99, 297, true},
		{many(100), 100, 0, false},
		{of(0, 1<<40, 1), 0, 1 << 40, true},
	} {
		if s, ok := inode.Map(c.x, c.block); s != c.want || ok != c.ok {
			t.Error(c, s, ok)
		}
	}
}

// P8.2: what a file grows by, and how.
func TestGrow(t *testing.T) {
	full := many(api.MaxExtents)
	longer := of(1)
	longer.Extents = slices.Clone(full.Extents)
	longer.Extents[api.MaxExtents-1].Len = 4
	for _, c := range []struct {
		x    inode.Inode
		e    inode.Extent
		want inode.Inode
		err  error
	}{
		{of(0), inode.Extent{At: 0, Len: 1}, of(1, 0, 1), nil},
		{of(0), inode.Extent{At: 0, Len: 2048}, of(1, 0, 2048), nil},
		{of(7, 10, 2), inode.Extent{At: 12, Len: 3}, of(8, 10, 5), nil},
		{of(7, 10, 2), inode.Extent{At: 13, Len: 3}, of(8, 10, 2, 13, 3), nil},
		{of(7, 10, 2), inode.Extent{At: 8, Len: 2}, of(8, 10, 2, 8, 2), nil},
		{of(7, 10, 2, 20, 1), inode.Extent{At: 12, Len: 3}, of(8, 10, 2, 20, 1, 12, 3), nil},
		{of(7, 10, 2, 20, 1), inode.Extent{At: 21, Len: 2027}, of(8, 10, 2, 20, 2028), nil},
		{of(7, 10, 2, 20, 1), inode.Extent{At: 21, Len: 2028}, inode.Inode{}, api.ErrArg},
		{of(7, 10, 2), inode.Extent{At: 2047, Len: 1}, of(8, 10, 2, 2047, 1), nil},
		{of(7, 10, 2), inode.Extent{At: 2047, Len: 2}, inode.Inode{}, api.ErrArg},
		{of(7, 10, 2), inode.Extent{At: 2048, Len: 1}, inode.Inode{}, api.ErrArg},
		{of(7, 10, 2), inode.Extent{At: 12, Len: 0}, inode.Inode{}, api.ErrArg},
		{of(7, 10, 2), inode.Extent{At: 12, Len: -1}, inode.Inode{}, api.ErrArg},
		{of(7, 10, 2), inode.Extent{At: -1, Len: 1}, inode.Inode{}, api.ErrArg},
		{of(7, 10, 2), inode.Extent{At: -1, Len: 2}, inode.Inode{}, api.ErrArg},
		{of(7, 10, 2), inode.Extent{At: 9, Len: 2}, inode.Inode{}, api.ErrArg},
		{of(7, 10, 2), inode.Extent{At: 11, Len: 1}, inode.Inode{}, api.ErrArg},
		{of(7, 10, 2), inode.Extent{At: 10, Len: 2}, inode.Inode{}, api.ErrArg},
		{of(7, 10, 2), inode.Extent{At: 0, Len: 2048}, inode.Inode{}, api.ErrArg},
		{of(7, 10, 2, 20, 1), inode.Extent{At: 11, Len: 1}, inode.Inode{}, api.ErrArg},
		{of(7, 10, 2), inode.Extent{At: 12, Len: math.MaxInt}, inode.Inode{}, api.ErrArg},
		{of(7, 10, 2), inode.Extent{At: math.MaxInt, Len: math.MaxInt}, inode.Inode{}, api.ErrArg},
		{of(7, 10, 2), inode.Extent{At: math.MinInt, Len: math.MinInt}, inode.Inode{}, api.ErrArg},
		{full, inode.Extent{At: 1000, Len: 1}, inode.Inode{}, api.ErrExtents},
		{full, inode.Extent{At: 3*(api.MaxExtents-1) + 1, Len: 3}, longer, nil},
		{full, inode.Extent{At: 1, Len: 1}, inode.Inode{}, api.ErrExtents},
		{full, inode.Extent{At: 0, Len: 1}, inode.Inode{}, api.ErrArg},
		{full, inode.Extent{At: 2048, Len: 1}, inode.Inode{}, api.ErrArg},
	} {
		x, untouched := spare(c.x)
		y, err := inode.Grow(x, c.e)
		if !same(y, c.want) || err != c.err || !untouched() || !same(x, c.x) {
			t.Error(c, y, err)
		}
		if err != nil && y.Extents != nil {
			t.Error(c, "extents beside an error")
		}
	}
	x, err := inode.Grow(many(api.MaxExtents-1), inode.Extent{At: 1000, Len: 1})
	if err != nil || len(x.Extents) != api.MaxExtents {
		t.Error(x, err)
	}
}

// P8.2: what is cut off, and what is left.
func TestCut(t *testing.T) {
	x := of(7, 10, 3, 20, 1, 13, 2)
	for _, c := range []struct {
		blocks int
		want   inode.Inode
		free   inode.Inode
		err    error
	}{
		{-1, of(0), of(0), api.ErrArg},
		{0, of(8), of(0, 10, 3, 20, 1, 13, 2), nil},
		{1, of(8, 10, 1), of(0, 11, 2, 20, 1, 13, 2), nil},
		{2, of(8, 10, 2), of(0, 12, 1, 20, 1, 13, 2), nil},
		{3, of(8, 10, 3), of(0, 20, 1, 13, 2), nil},
		{4, of(8, 10, 3, 20, 1), of(0, 13, 2), nil},
		{5, of(8, 10, 3, 20, 1, 13, 1), of(0, 14, 1), nil},
		{6, of(7, 10, 3, 20, 1, 13, 2), of(0), nil},
		{7, of(0), of(0), api.ErrArg},
		{math.MaxInt, of(0), of(0), api.ErrArg},
		{math.MinInt, of(0), of(0), api.ErrArg},
	} {
		given, untouched := spare(x)
		y, free, err := inode.Cut(given, c.blocks)
		if !same(y, c.want) || !slices.Equal(free, c.free.Extents) || err != c.err || !untouched() {
			t.Error(c, y, free, err)
		}
		if err != nil && (y.Extents != nil || free != nil) {
			t.Error(c, "a list beside an error")
		}
	}
	if y, free, err := inode.Cut(of(4), 0); !same(y, of(4)) || len(free) != 0 || err != nil {
		t.Error(y, free, err)
	}
	if y, free, err := inode.Cut(of(4), 1); !same(y, of(0)) || free != nil || err != api.ErrArg {
		t.Error(y, free, err)
	}
	// Neighbours stay two, both those that are left and those that are free.
	y, free, err := inode.Cut(of(0, 5, 1, 6, 1, 9, 1, 10, 1, 11, 2), 2)
	if !same(y, of(1, 5, 1, 6, 1)) || !slices.Equal(free, of(0, 9, 1, 10, 1, 11, 2).Extents) || err != nil {
		t.Error(y, free, err)
	}
}

// P8.2: an extent goes elsewhere.
func TestMove(t *testing.T) {
	x := of(7, 10, 3, 20, 1, 30, 2)
	for _, c := range []struct {
		i, at int
		want  inode.Inode
		was   inode.Extent
		err   error
	}{
		{0, 40, of(8, 40, 3, 20, 1, 30, 2), inode.Extent{At: 10, Len: 3}, nil},
		{1, 0, of(8, 10, 3, 0, 1, 30, 2), inode.Extent{At: 20, Len: 1}, nil},
		{2, 2046, of(8, 10, 3, 20, 1, 2046, 2), inode.Extent{At: 30, Len: 2}, nil},
		{1, 13, of(8, 10, 3, 13, 1, 30, 2), inode.Extent{At: 20, Len: 1}, nil}, // beside another one
		{0, 17, of(8, 17, 3, 20, 1, 30, 2), inode.Extent{At: 10, Len: 3}, nil},
		{0, 13, of(8, 13, 3, 20, 1, 30, 2), inode.Extent{At: 10, Len: 3}, nil}, // beside where it was
		{0, 7, of(8, 7, 3, 20, 1, 30, 2), inode.Extent{At: 10, Len: 3}, nil},
		{2, 2047, of(0), inode.Extent{}, api.ErrArg},
		{2, 2048, of(0), inode.Extent{}, api.ErrArg},
		{1, 2048, of(0), inode.Extent{}, api.ErrArg},
		{1, 2047, of(8, 10, 3, 2047, 1, 30, 2), inode.Extent{At: 20, Len: 1}, nil},
		{0, 10, of(0), inode.Extent{}, api.ErrArg}, // its own sectors
		{0, 8, of(0), inode.Extent{}, api.ErrArg},
		{0, 12, of(0), inode.Extent{}, api.ErrArg},
		{0, 18, of(0), inode.Extent{}, api.ErrArg}, // another's
		{0, 29, of(0), inode.Extent{}, api.ErrArg},
		{0, 31, of(0), inode.Extent{}, api.ErrArg},
		{0, -1, of(0), inode.Extent{}, api.ErrArg},
		{0, math.MinInt, of(0), inode.Extent{}, api.ErrArg},
		{0, math.MaxInt, of(0), inode.Extent{}, api.ErrArg},
		{-1, 40, of(0), inode.Extent{}, api.ErrArg},
		{3, 40, of(0), inode.Extent{}, api.ErrArg},
		{math.MinInt, 40, of(0), inode.Extent{}, api.ErrArg},
		{math.MaxInt, 40, of(0), inode.Extent{}, api.ErrArg},
	} {
		given, untouched := spare(x)
		y, was, err := inode.Move(given, c.i, c.at)
		if !same(y, c.want) || was != c.was || err != c.err || !untouched() {
			t.Error(c, y, was, err)
		}
		if err != nil && y.Extents != nil {
			t.Error(c, "extents beside an error")
		}
	}
	if y, was, err := inode.Move(of(0), 0, 4); !same(y, of(0)) || was != (inode.Extent{}) || err != api.ErrArg {
		t.Error(y, was, err)
	}
}

// P8.2: what is answered shares no memory with what was handed in.
func TestApart(t *testing.T) {
	x := of(7, 10, 3, 20, 1)
	grown, _ := inode.Grow(x, inode.Extent{At: 21, Len: 1})
	cut, free, _ := inode.Cut(x, 4)
	part, rest, _ := inode.Cut(x, 3)
	moved, _, _ := inode.Move(x, 1, 50)
	for _, l := range [][]inode.Extent{grown.Extents, cut.Extents, free, part.Extents, rest, moved.Extents} {
		for i := range l {
			l[i] = inode.Extent{}
		}
		for i := range l[:cap(l)] {
			l[:cap(l)][i] = inode.Extent{}
		}
	}
	if !same(x, of(7, 10, 3, 20, 1)) {
		t.Error(x)
	}
}

// number of size bytes, the lowest first.
func number(n, size int) string {
	return string(binary.LittleEndian.AppendUint64(nil, uint64(n))[:size])
}

// body of an inode's sector, by the document's words.
func body(x inode.Inode) string {
	s := number(x.Version, 6) + number(len(x.Extents), 1)
	for _, e := range x.Extents {
		s += number(e.At, 2) + number(e.Len, 2)
	}
	return s
}

func seal(t *testing.T, kind int, body string) string {
	t.Helper()
	s, err := mark.Seal(kind, body)
	if err != nil {
		t.Fatal(err)
	}
	return s
}

// P8.3: the sector's bytes, and the inode of them.
func TestPutGet(t *testing.T) {
	for _, x := range []inode.Inode{of(0), of(1), of(lastVersion, 0, 2048), of(0x010203040506, 258, 3, 10, 2, 1500, 513), many(api.MaxExtents)} {
		s, err := inode.Put(x)
		if err != nil || s != seal(t, mark.Inode, body(x)) {
			t.Errorf("%v: %x %v", x, s, err)
		}
		if y, err := inode.Get(s, 2048); !same(x, y) || err != nil {
			t.Error(x, y, err)
		}
	}
	for _, x := range []inode.Inode{of(-1), of(lastVersion + 1), of(0, 0, 0), of(0, -1, 1), of(0, 2047, 2), of(0, 2048, 1), of(0, 3, 2, 4, 1), many(api.MaxExtents + 1), of(0, 1<<16, 1), of(0, math.MaxInt, math.MaxInt)} {
		if s, err := inode.Put(x); s != "" || err != api.ErrArg {
			t.Error(x, s, err)
		}
	}
}

// P8.3: the errors, and which of several is answered.
func TestGetErrors(t *testing.T) {
	good := seal(t, mark.Inode, body(of(1, 10, 2)))
	tooMany := number(0, 6) + "\x25" + strings.Repeat("\x01\x00\x01\x00", 37)
	for _, c := range []struct {
		name    string
		s       string
		sectors int
		want    error
	}{
		{"good", good, 12, nil},
		{"nothing", "", 12, api.ErrForm},
		{"short", good[:511], 12, api.ErrForm},
		{"long", good + "\x00", 12, api.ErrForm},
		{"another kind", seal(t, mark.Bits, body(of(1, 10, 2))), 12, api.ErrForm},
		{"broken", good[:300] + "\x01" + good[301:], 12, api.ErrSum},
		{"broken, no device", good[:300] + "\x01" + good[301:], 0, api.ErrSum},
		{"37 extents", seal(t, mark.Inode, tooMany), 2048, api.ErrForm},
		{"255 extents", seal(t, mark.Inode, number(0, 6)+"\xff"), 2048, api.ErrForm},
		{"37 of them, no device", seal(t, mark.Inode, tooMany), 0, api.ErrForm},
		{"a byte behind", seal(t, mark.Inode, body(of(1, 10, 2))+"\x01"), 2048, api.ErrForm},
		{"a byte at the end", seal(t, mark.Inode, body(of(1, 10, 2))+strings.Repeat("\x00", 492)+"\x01"), 2048, api.ErrForm},
		{"a byte behind none", seal(t, mark.Inode, body(of(1))+"\x00\x00\x00\x80"), 2048, api.ErrForm},
		{"a byte behind one that isn't right", seal(t, mark.Inode, body(of(1, 10, 0))+"\x01"), 2048, api.ErrForm},
		{"a byte behind all", seal(t, mark.Inode, body(many(36))+"\x01"), 2048, api.ErrForm},
		{"Len 0", seal(t, mark.Inode, body(of(1, 10, 0))), 2048, api.ErrCorrupt},
		{"all 0", seal(t, mark.Inode, body(of(1, 0, 0))), 2048, api.ErrCorrupt},
		{"twice", seal(t, mark.Inode, body(of(1, 10, 2, 11, 1))), 2048, api.ErrCorrupt},
		{"beyond", good, 11, api.ErrCorrupt},
		{"beyond any", seal(t, mark.Inode, body(of(1, 65535, 65535))), 2048, api.ErrCorrupt},
		{"device 0", good, 0, api.ErrCorrupt},
		{"device -1", good, -1, api.ErrCorrupt},
		{"device 2049", good, 2049, api.ErrCorrupt},
		{"device 2048", good, 2048, nil},
		{"greatest device", good, math.MaxInt, api.ErrCorrupt},
		{"no extents", seal(t, mark.Inode, ""), 1, nil},
		{"no extents, no device", seal(t, mark.Inode, ""), 0, api.ErrCorrupt},
	} {
		x, err := inode.Get(c.s, c.sectors)
		if err != c.want || (err != nil && (x.Version != 0 || x.Extents != nil)) {
			t.Error(c.name, x, err)
		}
	}
}

// P8.1, P8.2, P8.3: an inode goes as a twin that is a list of sectors.
func TestTwin(t *testing.T) {
	r := rand.New(rand.NewSource(8))
	for range 200 {
		var x inode.Inode
		var twin []int
		version := 0
		for range 60 {
			switch r.Intn(4) {
			case 0, 1:
				e := inode.Extent{At: r.Intn(70) - 1, Len: r.Intn(5)}
				y, err := inode.Grow(x, e)
				var l []int
				bad := e.At < 0 || e.Len < 1
				for k := range e.Len {
					l = append(l, e.At+k)
					bad = bad || slices.Contains(twin, e.At+k)
				}
				if bad != (err == api.ErrArg) || !bad && err != nil && (err != api.ErrExtents || len(x.Extents) < api.MaxExtents) {
					t.Fatal(x, e, err)
				}
				if err == nil {
					x, twin, version = y, append(twin, l...), version+1
				}
			case 2:
				n := r.Intn(len(twin)+3) - 1
				if r.Intn(3) > 0 {
					n = len(twin) - r.Intn(3)
				}
				y, free, err := inode.Cut(x, n)
				if (n < 0 || n > len(twin)) != (err == api.ErrArg) {
					t.Fatal(x, n, err)
				}
				if err == nil {
					if gone := listed(inode.Inode{Extents: free}); !slices.Equal(gone, twin[n:]) {
						t.Fatal(x, n, free)
					}
					if n < len(twin) {
						version++
					}
					x, twin = y, twin[:n:n]
				}
			case 3:
				i, at := r.Intn(len(x.Extents)+1), r.Intn(70)
				y, was, err := inode.Move(x, i, at)
				if err == nil {
					if was != x.Extents[i] {
						t.Fatal(x, i, was)
					}
					first, _ := inode.Block(x, was.At)
					for k := range was.Len {
						if slices.Contains(twin, at+k) {
							t.Fatal(x, i, at, "onto its own")
						}
					}
					twin = slices.Clone(twin)
					for k := range was.Len {
						twin[first+k] = at + k
					}
					x, version = y, version+1
				} else if err != api.ErrArg {
					t.Fatal(err)
				}
			}
			if x.Version != version || !slices.Equal(listed(x), twin) || inode.Size(x) != len(twin) || !inode.Right(x, 2048) {
				t.Fatal(x, twin, version)
			}
			s, err := inode.Put(x)
			if err != nil {
				t.Fatal(err)
			}
			if y, err := inode.Get(s, 100); !same(x, y) || err != nil {
				t.Fatal(x, y, err)
			}
		}
	}
}

// listed: the sectors of an inode, as Map tells them.
func listed(x inode.Inode) []int {
	var l []int
	for block := 0; ; block++ {
		s, ok := inode.Map(x, block)
		if !ok {
			return l
		}
		l = append(l, s)
	}
}
