package journal_test

import (
	"math"
	"slices"
	"strconv"
	"strings"
	"testing"

	"posthorse/api"
	"posthorse/drive"
	"posthorse/fault"
	"posthorse/journal"
	"posthorse/nvme"
)

// P6.2, P6.3, P1: methods of nil.
func TestNil(t *testing.T) {
	var j *journal.Journal
	if err := j.Commit(put(20, "a")); err != api.ErrArg {
		t.Error(err)
	}
	if err := j.Commit(); err != api.ErrArg {
		t.Error(err)
	}
	if s, err := j.Read(0); s != "" || err != api.ErrArg {
		t.Error(s, err)
	}
	if err := j.Checkpoint(); err != api.ErrArg {
		t.Error(err)
	}
	if j.Waits(0) {
		t.Error("waits")
	}
	room(t, j, 0, 0)
}

// P6.2: what a transaction has in the ring, at each place, round its end.
func TestCommitBytes(t *testing.T) {
	d, _, j := opened(t, 40, 5, 12)
	has(t, d, 5, head(0, 2))
	place, n := 0, 2
	for _, l := range [][]drive.Put{
		{put(39, "abcdefg"), put(0, "hi"), put(4, "")},
		{put(17, "PH\x03\x00")},
		{put(0, "again")},
		{put(20, "1"), put(21, "2"), put(22, "3"), put(23, "4"), put(24, "5"), put(25, "6"), put(26, "7"), put(27, "8"), put(28, "9")},
		{{Sector: 30, Data: descriptor(77, 1, put(4, "x"))}, {Sector: 29, Data: commit(77, 1)}},
		{put(31, "a"), put(30, "b")},
		{put(31, "a")},
	} {
		if m, _ := j.Room(); m < len(l) {
			if err := j.Checkpoint(); err != nil {
				t.Fatal(err)
			}
		}
		want := state(t, d)
		_, writes, flushes := d.Counts()
		do(t, j, l...)
		for i, s := range transaction(n, l...) {
			want[6+(place+i)%11] = s
		}
		if !slices.Equal(state(t, d), want) {
			t.Errorf("transaction %d at %d", n, place)
		}
		if _, w, f := d.Counts(); w != writes+len(l)+2 || f != flushes+1 {
			t.Error(w-writes, f-flushes)
		}
		lasts := d.Copy()
		lasts.Crash()
		lasts.Boot()
		if !slices.Equal(state(t, lasts), want) {
			t.Error("it doesn't last")
		}
		place, n = (place+len(l)+2)%11, n+1
	}
}

// P6.2: what may not be committed, and which error comes first.
func TestCommitErrors(t *testing.T) {
	d, v, j := opened(t, 100, 5, 12)
	do(t, j, put(20, "a"), put(21, "b"), put(22, "c")) // 6 places are left
	long := func(sector int) drive.Put { return drive.Put{Sector: sector, Data: full("") + "x"} }
	tiny := drive.Put{Sector: 30, Data: full("")[1:]}
	var most []drive.Put
	for i := range api.MaxTxn + 1 {
		most = append(most, put(30+i, "m"))
	}
	before, counts := state(t, d), countsOf(d)
	for _, c := range []struct {
		name string
		l    []drive.Put
		want error
	}{
		{"nothing", nil, api.ErrArg},
		{"above MaxTxn", most, api.ErrArg},
		{"MaxTxn", most[:api.MaxTxn], api.ErrJournal},
		{"twice", []drive.Put{put(30, "a"), put(31, "b"), put(30, "a")}, api.ErrArg},
		{"twice, one behind the other", []drive.Put{put(30, "a"), put(30, "b")}, api.ErrArg},
		{"below 0", []drive.Put{put(30, "a"), put(-1, "b")}, api.ErrArg},
		{"the least int", []drive.Put{put(math.MinInt, "b")}, api.ErrArg},
		{"behind the device's", []drive.Put{put(100, "b"), put(30, "a")}, api.ErrArg},
		{"the greatest int", []drive.Put{put(math.MaxInt, "b")}, api.ErrArg},
		{"the head", []drive.Put{put(5, "b")}, api.ErrArg},
		{"the ring's first", []drive.Put{put(6, "b")}, api.ErrArg},
		{"the ring's last", []drive.Put{put(1, "a"), put(16, "b")}, api.ErrArg},
		{"long", []drive.Put{put(30, "a"), long(31)}, api.ErrLong},
		{"short", []drive.Put{tiny, put(31, "a")}, api.ErrLong},
		{"empty", []drive.Put{{Sector: 30}}, api.ErrLong},
		{"five", most[:5], api.ErrJournal},
		{"argument ahead of long", []drive.Put{tiny, put(5, "b")}, api.ErrArg},
		{"twice ahead of long", []drive.Put{tiny, tiny}, api.ErrArg},
		{"above MaxTxn ahead of long", append(most[:api.MaxTxn:api.MaxTxn], long(99)), api.ErrArg},
		{"argument ahead of room", append(most[:6:6], put(100, "b")), api.ErrArg},
		{"long ahead of room", append(most[:6:6], long(99)), api.ErrLong},
	} {
		handed := slices.Clone(c.l)
		if err := j.Commit(c.l...); err != c.want {
			t.Errorf("%s: %v, want %v", c.name, err, c.want)
		}
		if !slices.Equal(handed, c.l) {
			t.Error(c.name, "what was handed in was changed")
		}
		room(t, j, 4, 3)
		if j.Waits(30) || countsOf(d) != counts {
			t.Error(c.name, "something was done")
		}
	}
	if !slices.Equal(state(t, d), before) {
		t.Error("something was written")
	}
	do(t, j, most[:4]...)
	room(t, j, 0, 7)
	if err := j.Commit(put(0, "a")); err != api.ErrJournal {
		t.Error(err)
	}
	d.Crash()
	if err := j.Commit(put(0, "a")); err != api.ErrJournal {
		t.Error(err)
	}
	d.Boot()
	open(t, v, 5, 12)
	for _, p := range most[:4] {
		has(t, d, p.Sector, p.Data)
	}
}

func countsOf(d *nvme.Device) [3]int {
	r, w, f := d.Counts()
	return [3]int{r, w, f}
}

// P6.2: sectors just beside the journal's, and the device's first and last.
func TestCommitBeside(t *testing.T) {
	d, _, j := opened(t, 40, 5, 12)
	do(t, j, put(0, "a"), put(4, "b"), put(17, "c"), put(39, "d"))
	if err := j.Checkpoint(); err != nil {
		t.Error(err)
	}
	for sector, want := range map[int]string{0: "a", 4: "b", 17: "c", 39: "d"} {
		has(t, d, sector, full(want))
	}
}

// P6.2: Room, from the least ring to the greatest.
func TestRoom(t *testing.T) {
	for _, c := range []struct{ n, want int }{{8, 5}, {9, 6}, {10, 7}, {50, 47}, {51, 48}, {52, 48}, {512, 48}} {
		_, _, j := opened(t, 600, 0, c.n)
		room(t, j, c.want, 0)
		var l []drive.Put
		for i := range c.want + 1 {
			l = append(l, put(550+i%50, "a"))
		}
		if err := j.Commit(l...); err != api.ErrJournal && err != api.ErrArg {
			t.Error(c.n, err)
		}
		do(t, j, l[:c.want]...)
		left := c.n - 1 - c.want - 2
		room(t, j, min(max(left-2, 0), 48), c.want)
	}
}

// P6.2: Room goes down to 0, where places are left, but too few of them.
func TestRoomLittle(t *testing.T) {
	_, _, j := opened(t, 40, 0, 10)
	for _, c := range []struct{ k, room, waits int }{{1, 4, 1}, {2, 0, 2}} {
		l := []drive.Put{put(20, "a"), put(21, "b")}
		do(t, j, l[:c.k]...)
		room(t, j, c.room, c.waits)
	}
	if err := j.Commit(put(30, "a")); err != api.ErrJournal {
		t.Error(err)
	}
	if err := j.Checkpoint(); err != nil {
		t.Error(err)
	}
	room(t, j, 7, 0)
}

// P6.3: Read and Waits.
func TestRead(t *testing.T) {
	d, v, j := opened(t, 40, 5, 20)
	if err := v.Write(put(30, "on the device")); err != nil {
		t.Fatal(err)
	}
	reads := func(sector int, want string, waits bool) {
		t.Helper()
		if s, err := j.Read(sector); err != nil || s != want || j.Waits(sector) != waits {
			t.Errorf("%d: %s %v %v", sector, short(s), err, j.Waits(sector))
		}
	}
	reads(30, full("on the device"), false)
	reads(31, noughts, false)
	do(t, j, put(30, "first"), put(31, "first, too"))
	reads(30, full("first"), true)
	reads(31, full("first, too"), true)
	has(t, d, 30, full("on the device"))
	do(t, j, put(30, "second"))
	reads(30, full("second"), true)
	reads(31, full("first, too"), true)
	reads(32, noughts, false)
	room(t, j, 19-4-3-2, 2)
	if err := v.Write(put(30, "beneath")); err != nil {
		t.Fatal(err)
	}
	reads(30, full("second"), true)
	reads(5, head(0, 2), false)
	if err := j.Checkpoint(); err != nil {
		t.Error(err)
	}
	reads(30, full("second"), false)
	reads(31, full("first, too"), false)
	has(t, d, 30, full("second"))
	for _, sector := range []int{-1, 40, math.MaxInt, math.MinInt} {
		s, err := j.Read(sector)
		came(t, err, sector, api.ErrArg, "read")
		if s != "" || j.Waits(sector) {
			t.Error(sector)
		}
	}
	do(t, j, put(33, "waits"))
	d.Crash()
	reads(33, full("waits"), true)
	_, err := j.Read(30)
	came(t, err, 30, api.ErrPower, "read")
}

// P6.3: Checkpoint writes what waits, the last one of each, by rising numbers; then Flush; then the head.
func TestCheckpoint(t *testing.T) {
	var order []string
	for n := 1; ; n++ {
		d, v, j := opened(t, 40, 5, 16)
		do(t, j, put(30, "a"), put(4, "b"), put(22, "c"))
		do(t, j, put(30, "d"), put(21, "e"))
		d.Fail(n)
		err := j.Checkpoint()
		if err == nil {
			want := state(t, d)
			for sector, s := range map[int]string{5: head(9, 4), 30: full("d"), 4: full("b"), 22: full("c"), 21: full("e")} {
				if want[sector] != s {
					t.Error(sector, short(want[sector]))
				}
			}
			room(t, j, 13, 0)
			d.Crash()
			d.Boot()
			if !slices.Equal(state(t, d), want) {
				t.Error("it doesn't last")
			}
			break
		}
		f, _ := fault.Find(err)
		order = append(order, f.Op+" "+strconv.Itoa(f.At))
		came(t, err, 0, api.ErrPower, "checkpoint", f.Op)
		if err := j.Checkpoint(); err != api.ErrState {
			t.Error(err)
		}
		room(t, j, 4, 4)
		d.Boot()
		open(t, v, 5, 16)
		has(t, d, 30, full("d"))
		has(t, d, 21, full("e"))
	}
	if got := strings.Join(order, ", "); got != "write 4, write 21, write 22, write 30, flush 0, force 5" {
		t.Error(got)
	}
}

// P6.3: where nothing waits a Checkpoint does nothing, the power off or on.
func TestCheckpointOfNothing(t *testing.T) {
	d, _, j := opened(t, 40, 5, 16)
	counts := countsOf(d)
	if err := j.Checkpoint(); err != nil || countsOf(d) != counts {
		t.Error(err)
	}
	do(t, j, put(30, "a"))
	if err := j.Checkpoint(); err != nil {
		t.Error(err)
	}
	counts = countsOf(d)
	d.Crash()
	if err := j.Checkpoint(); err != nil || countsOf(d) != counts {
		t.Error(err)
	}
}

// P6.2: the drive's errors in a Commit, in the order of what it does; from then on ErrState.
func TestCommitPower(t *testing.T) {
	var order []string
	for n := 1; ; n++ {
		d, v, j := opened(t, 40, 5, 12)
		do(t, j, put(30, "a"))
		d.Fail(n)
		err := j.Commit(put(31, "b"), put(30, "c"))
		if err == nil {
			break
		}
		f, _ := fault.Find(err)
		order = append(order, f.Op+" "+strconv.Itoa(f.At))
		came(t, err, 3, api.ErrPower, "commit", f.Op)
		for range 2 {
			if j.Commit(put(31, "b")) != api.ErrState || j.Commit() != api.ErrState || j.Commit(put(5, "")) != api.ErrState || j.Checkpoint() != api.ErrState {
				t.Error("it goes on")
			}
			d.Boot()
		}
		if s, err := j.Read(30); err != nil || s != full("a") || j.Waits(31) {
			t.Error("a transaction with an error is given")
		}
		room(t, open(t, v, 5, 12), 9, 0)
		has(t, d, 30, full("a"))
		has(t, d, 31, noughts)
	}
	if got := strings.Join(order, ", "); got != "write 9, write 10, write 11, flush 0, force 12" {
		t.Error(got)
	}
}

// P6.2: a power that is off, too, is one that failed.
func TestCommitWithoutPower(t *testing.T) {
	d, _, j := opened(t, 40, 5, 12)
	d.Crash()
	came(t, j.Commit(put(30, "a")), 2, api.ErrPower, "commit", "write")
	d.Boot()
	if err := j.Commit(put(30, "a")); err != api.ErrState {
		t.Error(err)
	}
}

// P6.2, P6.3: where others have taken all of the queue nothing is changed, and the journal goes on when there is room.
func TestQueue(t *testing.T) {
	d, v, j := opened(t, 40, 5, 12)
	do(t, j, put(30, "a"))
	for range 8 {
		d.Submit(nvme.Command{Kind: nvme.Read, Sector: 1, Tag: 1})
	}
	before, pending := state(t, d), d.Pending()
	for range 2 {
		came(t, j.Commit(put(31, "b")), 3, api.ErrQueue, "commit", "write")
		came(t, j.Checkpoint(), 0, api.ErrQueue, "checkpoint", "write")
		_, err := j.Read(31)
		came(t, err, 31, api.ErrQueue, "read")
		room(t, j, 6, 1)
	}
	if !slices.Equal(state(t, d), before) || !slices.Equal(d.Pending(), pending) {
		t.Error("something was changed")
	}
	d.Complete(0)
	do(t, j, put(31, "b"), put(32, "c"))
	has(t, d, 6+3, descriptor(3, 2, put(31, "b"), put(32, "c")))
	if err := j.Checkpoint(); err != nil {
		t.Error(err)
	}
	if len(d.Pending()) != 7 {
		t.Error("others' commands were completed")
	}
	has(t, d, 30, full("a"))
	has(t, d, 5, head(7, 4))
	open(t, v, 5, 12)
	has(t, d, 31, full("b"))
}

// Of the numbers up to the greatest all are given; then none can be, and nothing is changed.
func TestGreatestNumber(t *testing.T) {
	d, v := device(t, 40, 4)
	force(t, v, 5, head(0, greatest-1))
	j := open(t, v, 5, 12)
	do(t, j, put(30, "a"))
	before := state(t, d)
	came(t, j.Commit(put(31, "b")), greatest+1, api.ErrCorrupt, "commit")
	came(t, j.Checkpoint(), 0, api.ErrCorrupt, "checkpoint")
	if !slices.Equal(state(t, d), before) || j.Waits(31) || !j.Waits(30) {
		t.Error("something was changed")
	}
	room(t, j, 6, 1)
}

// The document's example.
func TestExample(t *testing.T) {
	_, _, j := opened(t, 20, 0, 8)
	room(t, j, 5, 0)
	do(t, j, put(8, "a"), put(9, "b"), put(10, "c"), put(11, "d"), put(12, "e"))
	room(t, j, 0, 5)
}
