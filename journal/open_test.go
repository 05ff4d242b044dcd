package journal_test

import (
	"math"
	"slices"
	"strings"
	"testing"

	"posthorse/api"
	"posthorse/drive"
	"posthorse/fault"
	"posthorse/journal"
	"posthorse/mark"
	"posthorse/nvme"
)

const greatest = 1<<48 - 1

// P6.1: what isn't a journal's area.
func TestArea(t *testing.T) {
	d, v := device(t, 600, 4)
	for _, c := range []struct {
		v     *drive.Drive
		at, n int
		ok    bool
	}{
		{nil, 0, 8, false}, {v, -1, 8, false}, {v, math.MinInt, 8, false}, {v, 0, 7, false}, {v, 0, 513, false},
		{v, 0, 0, false}, {v, 0, -8, false}, {v, 0, math.MaxInt, false}, {v, 0, math.MinInt, false}, {v, math.MaxInt, 8, false},
		{v, math.MaxInt - 7, 8, false}, {v, 593, 8, false}, {v, 600, 8, false}, {v, 89, 512, false},
		{v, 592, 8, true}, {v, 88, 512, true}, {v, 0, 8, true}, {v, 0, 512, true}, {v, 17, 100, true},
	} {
		before := state(t, d)
		err := journal.Format(c.v, c.at, c.n)
		if !c.ok {
			if j, err := journal.Open(c.v, c.at, c.n); j != nil || err != api.ErrArg {
				t.Error(c.at, c.n, err)
			}
			if err != api.ErrArg || !slices.Equal(state(t, d), before) {
				t.Error(c.at, c.n, err)
			}
			continue
		}
		if err != nil {
			t.Error(c.at, c.n, err)
		}
		room(t, open(t, v, c.at, c.n), min(c.n-3, api.MaxTxn), 0)
	}
	d.Crash()
	if err := journal.Format(v, 0, 7); err != api.ErrArg {
		t.Error(err)
	}
}

// P6.1: Format forces the head, and that alone.
func TestFormat(t *testing.T) {
	d, v := device(t, 40, 4)
	force(t, v, 0, full("ahead"))
	lay(t, v, 5, 12, 3, transaction(6, put(30, "old"))...)
	force(t, v, 17, full("behind"))
	want := state(t, d)
	want[5] = head(0, 7)
	reads, writes, flushes := d.Counts()
	if err := journal.Format(v, 5, 12); err != nil {
		t.Fatal(err)
	}
	if r, w, f := d.Counts(); r != reads+11 || w != writes+1 || f != flushes {
		t.Error(r-reads, w-writes, f-flushes)
	}
	d.Crash()
	d.Boot()
	if !slices.Equal(state(t, d), want) {
		t.Error("another sector was changed, or the head doesn't last")
	}
	open(t, v, 5, 12)
	has(t, d, 30, noughts)
}

// P6.1: the number is one greater than all that Descriptors and Commits in the ring tell.
func TestFormatNumber(t *testing.T) {
	spoilt := descriptor(99, 1, put(30, "x"))
	spoilt = spoilt[:100] + "!" + spoilt[101:]
	for _, c := range []struct {
		name string
		at   int // the sector
		l    []string
		want int
	}{
		{"none", 6, nil, 1},
		{"a transaction", 8, transaction(41, put(30, "x")), 42},
		{"a Descriptor alone", 6, []string{descriptor(12, 1, put(30, "x"))}, 13},
		{"a Commit alone", 16, []string{commit(13, 1)}, 14},
		{"a Descriptor of no transaction", 16, []string{descriptor(12, 0)}, 13},
		{"of the number 0", 16, []string{descriptor(0, 1, put(30, "x"))}, 1},
		{"the greatest, not the last one", 10, []string{commit(7, 1), descriptor(300, 200), commit(6, 1), descriptor(5, 1)}, 301},
		{"all six bytes", 10, []string{commit(0x0605040302ff, 1)}, 0x060504030300},
		{"up to the greatest", 10, []string{commit(greatest-1, 1)}, greatest},
		{"other kinds", 6, []string{seal(mark.Journal, "123456789"), seal(mark.Page, "123456789"), seal(9, "123456789")}, 1},
		{"a sum that isn't right", 6, []string{spoilt}, 1},
		{"data", 6, data(drive.Put{Data: descriptor(55, 1, put(30, "x"))}), 1},
		{"ahead of the ring", 4, []string{descriptor(55, 1), descriptor(56, 1)}, 1},
		{"behind the ring", 17, []string{descriptor(55, 1), commit(56, 1)}, 1},
	} {
		d, v := device(t, 40, 4)
		force(t, v, c.at, c.l...)
		if err := journal.Format(v, 5, 12); err != nil {
			t.Error(c.name, err)
		}
		if s, _ := d.Look(5); s != head(0, c.want) {
			t.Errorf("%s: %x, want %d", c.name, s[4:12], c.want)
		}
	}
}

// P6.1: a number above the greatest isn't forced.
func TestFormatCorrupt(t *testing.T) {
	for _, s := range []string{descriptor(greatest, 1), commit(greatest, 1)} {
		d, v := device(t, 40, 4)
		force(t, v, 16, s)
		before := state(t, d)
		came(t, journal.Format(v, 5, 12), 5, api.ErrCorrupt, "format")
		if !slices.Equal(state(t, d), before) {
			t.Error("something was changed")
		}
	}
}

// P6.1: errors of the drive, wrapped, wherever the power fails.
func TestFormatPower(t *testing.T) {
	for n := 1; ; n++ {
		d, v := device(t, 40, 4)
		d.Fail(n)
		err := journal.Format(v, 5, 12)
		if err == nil {
			if n != 13 {
				t.Error(n)
			}
			return
		}
		op, at := "read", 5+n
		if n == 12 {
			op, at = "force", 5
		}
		came(t, err, 5, api.ErrPower, "format", op)
		if f, _ := fault.Find(err); f.At != at {
			t.Error(err)
		}
	}
}

// P6.1: errors of the drive, where others have taken all of the queue.
func TestOpenQueue(t *testing.T) {
	d, v := device(t, 40, 1)
	if err := journal.Format(v, 5, 12); err != nil {
		t.Fatal(err)
	}
	d.Submit(nvme.Command{Kind: nvme.Flush})
	came(t, journal.Format(v, 5, 12), 5, api.ErrQueue, "format", "read")
	j, err := journal.Open(v, 5, 12)
	came(t, err, 5, api.ErrQueue, "open", "read")
	if j != nil || len(d.Pending()) != 1 {
		t.Error("a journal beside an error")
	}
	d.Complete(0)
	open(t, v, 5, 12)
}

// P6.1: a head that is none, or none of such a ring.
func TestOpenHead(t *testing.T) {
	wrong := head(0, 1)
	wrong = wrong[:20] + "!" + wrong[21:]
	for _, c := range []struct {
		name, head string
		want       api.Errno
	}{
		{"noughts", noughts, api.ErrForm},
		{"another kind", seal(mark.Page, number(0, 2)+number(1, 6)), api.ErrForm},
		{"its sum", wrong, api.ErrSum},
		{"behind the ring", head(11, 1), api.ErrCorrupt},
		{"far behind the ring", head(65535, 1), api.ErrCorrupt},
		{"behind the ring by its second byte", head(256, 1), api.ErrCorrupt},
		{"the greatest number", head(0, greatest), api.ErrCorrupt},
		{"the last place", head(10, 1), 0},
		{"the number 0", head(0, 0), 0},
		{"bytes behind", seal(mark.Journal, number(3, 2)+number(1, 6)+"more"), 0},
	} {
		d, v := device(t, 40, 4)
		force(t, v, 5, c.head)
		before := state(t, d)
		j, err := journal.Open(v, 5, 12)
		if c.want == 0 {
			if j == nil || err != nil {
				t.Error(c.name, err)
			}
			continue
		}
		came(t, err, 5, c.want, "open")
		if j != nil || !slices.Equal(state(t, d), before) {
			t.Error(c.name, "something was changed")
		}
	}
}

// redone: the head that Open forces, on a ring of 11 places at the sector 5 with these sectors from a place on; the device then, as it lasts.
func redone(t *testing.T, h string, place int, l ...string) (*nvme.Device, string) {
	t.Helper()
	d, v := device(t, 40, 4)
	force(t, v, 5, h)
	lay(t, v, 5, 12, place, l...)
	j := open(t, v, 5, 12)
	room(t, j, 9, 0)
	d.Crash()
	d.Boot()
	s, _ := d.Look(5)
	return d, s
}

// P6.1: what counts is done, lasts, and the ring is empty.
func TestRedo(t *testing.T) {
	l := slices.Concat(transaction(7, put(20, "a"), put(21, "b")), transaction(8, put(21, "c"), put(0, "d")))
	for place := range 11 {
		d, h := redone(t, head(place, 7), place, l...)
		if h != head((place+8)%11, 9) {
			t.Errorf("place %d: %x", place, h[4:12])
		}
		for sector, want := range map[int]string{20: full("a"), 21: full("c"), 0: full("d"), 4: noughts, 17: noughts, 22: noughts} {
			has(t, d, sector, want)
		}
		v := drive.New(d)
		if err := v.Force(put(21, "later")); err != nil {
			t.Error(err)
		}
		open(t, v, 5, 12)
		has(t, d, 21, full("later"))
	}
}

// P6.1: a full ring counts, too, to its last place.
func TestRedoFull(t *testing.T) {
	var l []drive.Put
	for i := range 9 {
		l = append(l, put(20+i, string(rune('a'+i))))
	}
	d, h := redone(t, head(4, 7), 4, transaction(7, l...)...)
	if h != head(4, 8) {
		t.Errorf("%x", h[4:12])
	}
	for _, p := range l {
		has(t, d, p.Sector, p.Data)
	}
}

// P6.1: the greatest ring, whose places take both of their bytes.
func TestRedoGreat(t *testing.T) {
	for _, place := range []int{255, 256, 400, 508, 510} {
		d, v := device(t, 2048, 64)
		force(t, v, 1000, head(place, 7))
		lay(t, v, 1000, 512, place, transaction(7, put(2047, "a"), put(999, "b"))...)
		j := open(t, v, 1000, 512)
		has(t, d, 2047, full("a"))
		has(t, d, 999, full("b"))
		has(t, d, 1000, head((place+4)%511, 8))
		do(t, j, put(1512, "c"))
		has(t, d, 1001+(place+4)%511, descriptor(8, 1, put(1512, "c")))
	}
}

// P6.1: MaxTxn sectors, and first bytes that are anything; one more is too many.
func TestRedoMost(t *testing.T) {
	for k, counts := range map[int]bool{api.MaxTxn: true, api.MaxTxn + 1: false} {
		d, v := device(t, 200, 64)
		var l []drive.Put
		for i := range k {
			l = append(l, drive.Put{Sector: 100 + i, Data: descriptor(1000+i, 1, put(3, "x"))})
		}
		force(t, v, 0, head(90, 7))
		lay(t, v, 0, 100, 90, transaction(7, l...)...)
		open(t, v, 0, 100)
		for _, p := range l {
			if !counts {
				p.Data = noughts
			}
			has(t, d, p.Sector, p.Data)
		}
		place := 90
		if counts {
			place = 90 + 50 - 99
		}
		has(t, d, 0, head(place, 8))
	}
}

// P6.1: the last ones of each sector alone are written, then Flush, then the head.
func TestRedoWrites(t *testing.T) {
	d, v := device(t, 40, 4)
	force(t, v, 5, head(0, 7))
	lay(t, v, 5, 12, 0, slices.Concat(transaction(7, put(20, "a"), put(21, "b")), transaction(8, put(21, "c"), put(22, "d")))...)
	reads, writes, flushes := d.Counts()
	open(t, v, 5, 12)
	if r, w, f := d.Counts(); r != reads+12 || w != writes+4 || f != flushes+1 {
		t.Error(r-reads, w-writes, f-flushes)
	}
	// Of an empty journal the head alone.
	reads, writes, flushes = d.Counts()
	open(t, v, 5, 12)
	if r, w, f := d.Counts(); r != reads+12 || w != writes+1 || f != flushes+1 {
		t.Error(r-reads, w-writes, f-flushes)
	}
	has(t, d, 5, head(8, 10))
}

// P6.1: of a sector that a transaction has twice the last one counts.
func TestRedoTwice(t *testing.T) {
	d, _ := redone(t, head(0, 7), 0, transaction(7, put(20, "a"), put(20, "b"))...)
	has(t, d, 20, full("b"))
}

// P6.1: what doesn't count. A first transaction, of the number 7 at the place 0, counts always; the second one never.
func TestWhatCounts(t *testing.T) {
	first := transaction(7, put(20, "a"))
	l := []drive.Put{put(20, "x of twenty"), put(21, "y of twenty-one")}
	good := transaction(8, l...)
	with := func(i int, s string) []string {
		bad := slices.Clone(good)
		bad[i] = s
		return bad
	}
	spoil := func(i, at int) []string { return with(i, good[i][:at]+"!"+good[i][at+1:]) }
	strange := func(sector int) []string { return transaction(8, put(21, "y"), put(sector, "z")) }
	for _, c := range []struct {
		name   string
		second []string
		told   int
	}{
		{"nothing", nil, 7},
		{"a greater number", transaction(9, l...), 9},
		{"the same number", transaction(7, l...), 7},
		{"a smaller number", transaction(6, l...), 7},
		{"a greater number than its Commit's", with(0, descriptor(9, 2, l...)), 9},
		{"a smaller number than its Commit's", with(0, descriptor(7, 2, l...)), 8},
		{"no Descriptor", with(0, noughts), 8},
		{"another kind", with(0, seal(mark.Commit, good[0][4:508])), 8},
		{"a Descriptor that isn't whole", spoil(0, 300), 8},
		{"a k of 0", append([]string{descriptor(8, 0)}, commit(8, 0)), 8},
		{"a k above MaxTxn", with(0, descriptor(8, 49, l...)), 8},
		{"a k of 255", with(0, descriptor(8, 255, l...)), 8},
		{"a k that is less", with(0, descriptor(8, 1, l...)), 8},
		{"a k that is more", with(0, descriptor(8, 3, l...)), 8},
		{"data that aren't whole", spoil(1, 300), 8},
		{"data that aren't whole, at the end", spoil(2, 511), 8},
		{"data that aren't whole, at the beginning", spoil(2, 0), 8},
		{"data the other way round", []string{good[0], good[2], good[1], good[3]}, 8},
		{"no Commit", good[:3], 8},
		{"a Commit that isn't whole", spoil(3, 300), 8},
		{"a Commit of another kind", with(3, seal(mark.Descriptor, good[3][4:508])), 8},
		{"a Commit of another number", with(3, commit(9, 2, data(l...)...)), 9},
		{"a Commit of a smaller number", with(3, commit(7, 2, data(l...)...)), 8},
		{"a Commit of another k", with(3, commit(8, 1, data(l...)...)), 8},
		{"a Commit of another sum", with(3, commit(8, 2, l[0].Data, l[1].Data)), 8},
		{"a sector behind the device's", strange(40), 8},
		{"a sector far behind the device's", strange(65535), 8},
		{"the head's sector", strange(5), 8},
		{"the ring's first sector", strange(6), 8},
		{"the ring's last sector", strange(16), 8},
		{"a strange sector ahead", transaction(8, put(10, "z"), put(21, "y")), 8},
	} {
		d, h := redone(t, head(0, 7), 0, append(slices.Clone(first), c.second...)...)
		if h != head(3, c.told+1) {
			t.Errorf("%s: %x", c.name, h[4:12])
		}
		has(t, d, 20, full("a"))
		has(t, d, 21, noughts)
		if t.Failed() {
			t.Fatal(c.name)
		}
	}
	for _, sector := range []int{0, 4, 17, 39} {
		d, h := redone(t, head(0, 7), 0, append(slices.Clone(first), strange(sector)...)...)
		if h != head(7, 9) {
			t.Errorf("%d: %x", sector, h[4:12])
		}
		has(t, d, sector, full("z"))
	}
	// Bytes behind what a Descriptor and a Commit tell don't count.
	more := slices.Clone(good)
	more[0] = seal(mark.Descriptor, good[0][4:4+7+12]+"more")
	more[3] = seal(mark.Commit, good[3][4:4+11]+"more")
	d, _ := redone(t, head(0, 7), 0, append(slices.Clone(first), more...)...)
	has(t, d, 21, l[1].Data)
}

// P6.1: what goes to the end of the round counts still; what goes over it doesn't.
func TestOneRound(t *testing.T) {
	// The ring has 11 places, and the first one takes 8 of them.
	first := transaction(7, put(20, "a"), put(21, "b"), put(22, "c"), put(23, "d"), put(24, "e"), put(25, "f"))
	for _, place := range []int{0, 3, 10} {
		d, h := redone(t, head(place, 7), place, slices.Concat(first, transaction(8, put(26, "g")))...)
		if h != head(place, 9) {
			t.Errorf("%x", h[4:12])
		}
		has(t, d, 26, full("g"))
		d, h = redone(t, head(place, 7), place, slices.Concat(first, transaction(8, put(26, "g"), put(27, "h"))[:3])...)
		if h != head((place+8)%11, 9) {
			t.Errorf("%x", h[4:12])
		}
		has(t, d, 25, full("f"))
		has(t, d, 26, noughts)
	}
}

// P6.1: a second transaction whose Commit stands, behind one round, among the first one's data: all of it is there, but it doesn't count.
func TestBehindOneRound(t *testing.T) {
	var l []drive.Put
	for i := range 8 {
		l = append(l, put(22+i, "z"))
	}
	d7 := descriptor(7, 2, put(20, "a"), put(21, "b"))
	data0 := data(put(20, "a"))[0]
	seconds := data(l[:6]...)
	c8 := commit(8, 8, append(slices.Clone(seconds), d7, data0)...)
	ring := append([]string{d7, data0, c8, commit(7, 2, data0, c8), descriptor(8, 8, l...)}, seconds...)
	for _, place := range []int{0, 5} {
		d, h := redone(t, head(place, 7), place, ring...)
		if h != head(place+4, 9) {
			t.Errorf("%x", h[4:12])
		}
		has(t, d, 20, full("a"))
		has(t, d, 22, noughts)
	}
}

// P6.1: a transaction that is longer than the ring doesn't count.
func TestLongerThanRing(t *testing.T) {
	var l []drive.Put
	for i := range 10 {
		l = append(l, put(20+i, "z"))
	}
	d, h := redone(t, head(2, 7), 2, transaction(7, l...)[:11]...)
	has(t, d, 20, noughts)
	if h != head(2, 8) {
		t.Errorf("%x", h[4:12])
	}
}

// P6.1: the number is greater than the head's, than all that count, and than all in the ring.
func TestOpenNumber(t *testing.T) {
	for _, c := range []struct {
		name string
		h    string
		l    []string
		want string
	}{
		{"the head's", head(4, 70), nil, head(4, 71)},
		{"the head's, above the ring's", head(4, 70), transaction(69, put(20, "a")), head(4, 71)},
		{"what counts", head(4, 70), transaction(70, put(20, "a")), head(7, 71)},
		{"the ring's", head(4, 70), transaction(90, put(20, "a")), head(4, 91)},
		{"a Commit's alone", head(4, 70), []string{noughts, noughts, commit(80, 1)}, head(4, 81)},
		{"behind what counts", head(4, 70), append(transaction(70, put(20, "a")), descriptor(75, 3)), head(7, 76)},
		{"ahead of the head's place", head(7, 70), transaction(77, put(20, "a")), head(7, 78)},
		{"from 0 on", head(4, 0), transaction(0, put(20, "a")), head(7, 1)},
		{"the greatest", head(4, greatest-1), nil, head(4, greatest)},
		{"the greatest, what counts", head(4, greatest-1), transaction(greatest-1, put(20, "a")), head(7, greatest)},
	} {
		if _, h := redone(t, c.h, 4, c.l...); h != c.want {
			t.Errorf("%s: %x, want %x", c.name, h[4:12], c.want[4:12])
		}
	}
}

// P6.1: a number above the greatest isn't forced, and nothing is changed.
func TestOpenCorrupt(t *testing.T) {
	for _, c := range []struct {
		h string
		l []string
	}{
		{head(4, greatest), nil},
		{head(4, greatest), transaction(greatest, put(20, "a"))},
		{head(4, greatest-1), append(transaction(greatest-1, put(20, "a")), transaction(greatest, put(21, "b"))...)},
		{head(4, 1), transaction(greatest, put(20, "a"))},
		{head(4, 1), append(transaction(1, put(20, "a")), commit(greatest, 1))},
	} {
		d, v := device(t, 40, 4)
		force(t, v, 5, c.h)
		lay(t, v, 5, 12, 4, c.l...)
		before := state(t, d)
		j, err := journal.Open(v, 5, 12)
		came(t, err, 5, api.ErrCorrupt, "open")
		if j != nil || !slices.Equal(state(t, d), before) {
			t.Error("something was changed")
		}
	}
}

// P6.1: errors of the drive in Open, in the order of what it does.
func TestOpenPower(t *testing.T) {
	var ops []string
	for n := 1; ; n++ {
		d, v := device(t, 40, 4)
		force(t, v, 5, head(0, 7))
		lay(t, v, 5, 12, 0, slices.Concat(transaction(7, put(21, "b"), put(20, "a")), transaction(8, put(21, "c")))...)
		d.Fail(n)
		j, err := journal.Open(v, 5, 12)
		if err == nil {
			break
		}
		f, _ := fault.Find(err)
		ops = append(ops, f.Op)
		came(t, err, 5, api.ErrPower, "open", f.Op)
		if j != nil {
			t.Error("a journal beside an error")
		}
	}
	if got := strings.Join(ops, " "); got != strings.Repeat("read ", 12)+"write write flush force" {
		t.Error(got)
	}
}
