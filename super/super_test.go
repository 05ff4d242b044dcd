package super_test

import (
	"math"
	"strings"
	"testing"

	"posthorse/api"
	"posthorse/mark"
	"posthorse/super"
)

// wild: ints at which sums and differences may go wrong.
var wild = []int{math.MinInt, math.MinInt + 6, math.MinInt + 512, -1 << 32, -512, -8, -1, 0, 7, 2049, 1 << 16, 1<<16 + 8, 1 << 32, 1<<32 + 100, math.MaxInt - 6, math.MaxInt}

func layout(sectors, journal int) super.Layout {
	return super.Layout{Sectors: sectors, Journal: journal}
}

// isNone: does everything of a layout tell that it isn't right?
func isNone(t *testing.T, l super.Layout) {
	t.Helper()
	if super.Right(l) {
		t.Error(l, "is right")
	}
	if at, n := l.Ring(); at != 0 || n != 0 {
		t.Error(l, "ring", at, n)
	}
	if at := l.Bits(); at != 0 {
		t.Error(l, "bits", at)
	}
	for file := -1; file <= api.MaxFiles; file++ {
		if at, ok := l.Inode(file); at != 0 || ok {
			t.Error(l, "inode", file, at, ok)
		}
	}
	if at, n := l.Data(); at != 0 || n != 0 {
		t.Error(l, "data", at, n)
	}
	if s, err := super.Put(l); s != "" || err != api.ErrArg {
		t.Error(l, "put", len(s), err)
	}
}

// P9.1: of a layout that is right all sectors are there, one behind the other.
func isWhole(t *testing.T, l super.Layout) {
	t.Helper()
	if !super.Right(l) {
		t.Fatal(l, "isn't right")
	}
	next := 1 // behind the superblock
	at, n := l.Ring()
	if at != next || n != l.Journal {
		t.Error(l, "ring", at, n)
	}
	next += n
	if at := l.Bits(); at != next {
		t.Error(l, "bits", at)
	}
	next++
	for file := range 4 {
		if at, ok := l.Inode(file); at != next || !ok {
			t.Error(l, "inode", file, at, ok)
		}
		next++
	}
	for _, file := range []int{math.MinInt, -1, 4, 5, math.MaxInt} {
		if at, ok := l.Inode(file); at != 0 || ok {
			t.Error(l, "inode", file, at, ok)
		}
	}
	if at, n := l.Data(); at != next || n != l.Sectors-next || n < 1 {
		t.Error(l, "data", at, n)
	}
}

// P9.1: which layouts are right.
func TestRight(t *testing.T) {
	for journal := -2; journal <= 520; journal++ {
		for _, sectors := range []int{-1, 0, 1, journal, journal + 5, journal + 6, journal + 7, journal + 8, 100, 600, 2047, 2048, 2049, 4000} {
			l := layout(sectors, journal)
			if journal >= 8 && journal <= 512 && sectors >= journal+7 && sectors <= 2048 {
				isWhole(t, l)
			} else {
				isNone(t, l)
			}
		}
	}
}

// P9.1: numbers that are far from right.
func TestWild(t *testing.T) {
	for _, n := range wild {
		for _, l := range []super.Layout{layout(n, n), layout(n, 8), layout(n, 512), layout(100, n), layout(2048, n)} {
			isNone(t, l)
		}
	}
}

// P9.1: the document's example.
func TestExample(t *testing.T) {
	l := layout(100, 20)
	isWhole(t, l)
	if at, n := l.Data(); l.Bits() != 21 || at != 26 || n != 74 {
		t.Error(l.Bits(), at, n)
	}
}

func seal(t *testing.T, kind int, body string) string {
	t.Helper()
	s, err := mark.Seal(kind, body)
	if err != nil {
		t.Fatal(err)
	}
	return s
}

// P9.2: the bytes of a layout's sector, there and back.
func TestPut(t *testing.T) {
	for _, c := range []struct {
		l    super.Layout
		body string
	}{
		{layout(100, 20), "\x64\x00\x14\x00"},
		{layout(15, 8), "\x0f\x00\x08\x00"},
		{layout(2048, 512), "\x00\x08\x00\x02"},
		{layout(0x234, 0x102), "\x34\x02\x02\x01"},
	} {
		s, err := super.Put(c.l)
		if err != nil || s != seal(t, mark.Super, c.body) {
			t.Errorf("%v: %q %v", c.l, s, err)
		}
		if l, err := super.Get(s); l != c.l || err != nil {
			t.Error(c.l, l, err)
		}
	}
}

// P9.2: sectors that have no layout, and which error comes first.
func TestGet(t *testing.T) {
	good := seal(t, mark.Super, "\x64\x00\x14\x00")
	spoilt := good[:100] + "\x01" + good[101:]
	last := strings.Repeat("\x00", mark.Room-5) + "\x01"
	for _, c := range []struct {
		name, s string
		err     error
	}{
		{"nothing", "", api.ErrForm},
		{"short", good[:511], api.ErrForm},
		{"long", good + "\x00", api.ErrForm},
		{"noughts", strings.Repeat("\x00", 512), api.ErrForm},
		{"another kind", seal(t, mark.Journal, "\x64\x00\x14\x00"), api.ErrForm},
		{"a byte is another", spoilt, api.ErrSum},
		{"a byte behind", seal(t, mark.Super, "\x64\x00\x14\x00\x01"), api.ErrForm},
		{"the last byte", seal(t, mark.Super, "\x64\x00\x14\x00"+last), api.ErrForm},
		{"a byte behind, and not right", seal(t, mark.Super, "\x00\x00\x14\x00\x01"), api.ErrForm},
		{"empty", seal(t, mark.Super, ""), api.ErrCorrupt},
		{"no block is left", seal(t, mark.Super, "\x1a\x00\x14\x00"), api.ErrCorrupt},
		{"too many sectors", seal(t, mark.Super, "\x01\x08\x14\x00"), api.ErrCorrupt},
		{"a small journal", seal(t, mark.Super, "\x64\x00\x07\x00"), api.ErrCorrupt},
		{"a great journal", seal(t, mark.Super, "\x00\x08\x01\x02"), api.ErrCorrupt},
		{"all bits", seal(t, mark.Super, "\xff\xff\xff\xff"), api.ErrCorrupt},
	} {
		if l, err := super.Get(c.s); l != (super.Layout{}) || err != c.err {
			t.Error(c.name, l, err)
		}
	}
}
