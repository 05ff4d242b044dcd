package drive_test

import (
	"errors"
	"math"
	"slices"
	"strings"
	"testing"

	"posthorse/api"
	"posthorse/drive"
	"posthorse/fault"
	"posthorse/nvme"
)

// full: a sector that begins with a text.
func full(s string) string { return s + strings.Repeat("\x00", api.Sector-len(s)) }

func put(sector int, s string) drive.Put { return drive.Put{Sector: sector, Data: full(s)} }

func device(t *testing.T, sectors, depth int) (*nvme.Device, *drive.Drive) {
	t.Helper()
	d, err := nvme.New(sectors, depth)
	if err != nil {
		t.Fatal(err)
	}
	v := drive.New(d)
	if v == nil || v.Device() != d {
		t.Fatal("no drive of the device")
	}
	return d, v
}

// submit commands of others, none of which is refused.
func submit(t *testing.T, d *nvme.Device, l ...nvme.Command) {
	t.Helper()
	for _, c := range l {
		if err := d.Submit(c); err != nil {
			t.Fatal(err)
		}
	}
}

// isFault: is it just one Fault of these, and nothing about it?
func isFault(t *testing.T, err error, op string, at int, number api.Errno) {
	t.Helper()
	f, ok := err.(*fault.Fault)
	if !ok || *f != (fault.Fault{Op: op, At: at, Err: number}) {
		t.Errorf("%v, want %s %d: %v", err, op, at, number)
	}
}

// holds: the sectors from 0 on hold these texts.
func holds(t *testing.T, d *nvme.Device, l ...string) {
	t.Helper()
	for i, want := range l {
		if s, err := d.Look(i); err != nil || s != full(want) {
			t.Errorf("sector %d: %q %v, want %q", i, strings.TrimRight(s, "\x00"), err, want)
		}
	}
}

// P5.1, P1: New of nil, and methods of nil.
func TestNil(t *testing.T) {
	if drive.New(nil) != nil {
		t.Error("a drive of no device")
	}
	var v *drive.Drive
	v.Choose()
	v.Choose(1, 2)
	if v.Device() != nil {
		t.Error("a device of no drive")
	}
	if s, err := v.Read(0); s != "" || err != api.ErrArg {
		t.Error(s, err)
	}
	for _, err := range []error{v.Write(), v.Write(put(0, "a")), v.Force(put(0, "a")), v.Flush()} {
		if err != api.ErrArg {
			t.Error(err)
		}
	}
}

// P5.1: the errors of each call, as the device tells them, wrapped.
func TestErrors(t *testing.T) {
	short := func(sector int) drive.Put { return drive.Put{Sector: sector, Data: "short"} }
	for _, c := range []struct {
		sector int
		data   string
		want   api.Errno
	}{
		{10, full(""), api.ErrArg}, {-1, full(""), api.ErrArg}, {math.MaxInt, full(""), api.ErrArg}, {math.MinInt, full(""), api.ErrArg},
		{10, "", api.ErrArg}, {9, "", api.ErrLong}, {0, full("") + "x", api.ErrLong}, {3, full("")[1:], api.ErrLong},
	} {
		d, v := device(t, 10, 4)
		p := drive.Put{Sector: c.sector, Data: c.data}
		isFault(t, v.Write(p), "write", c.sector, c.want)
		isFault(t, v.Force(p), "force", c.sector, c.want)
		if c.want == api.ErrArg {
			s, err := v.Read(c.sector)
			isFault(t, err, "read", c.sector, c.want)
			if s != "" {
				t.Error("data beside an error")
			}
		}
		if r, w, f := d.Counts(); r+w+f != 0 || len(d.Pending()) != 0 {
			t.Error("something was done")
		}
	}
	d, v := device(t, 10, 4)
	d.Crash()
	s, err := v.Read(11)
	isFault(t, err, "read", 11, api.ErrPower)
	isFault(t, v.Write(short(12), put(1, "a")), "write", 12, api.ErrPower)
	isFault(t, v.Force(short(13)), "force", 13, api.ErrPower)
	isFault(t, v.Flush(), "flush", 0, api.ErrPower)
	if s != "" || v.Write() != nil {
		t.Error("a write of nothing")
	}
}

// P5.1: the power that fails at a completion.
func TestPowerFails(t *testing.T) {
	for _, c := range []struct {
		op string
		at int
		do func(v *drive.Drive) error
	}{
		{"read", 7, func(v *drive.Drive) error { _, err := v.Read(7); return err }},
		{"write", 6, func(v *drive.Drive) error { return v.Write(put(6, "a"), put(7, "b")) }},
		{"force", 5, func(v *drive.Drive) error { return v.Force(put(5, "a")) }},
		{"flush", 0, func(v *drive.Drive) error { return v.Flush() }},
	} {
		d, v := device(t, 10, 4)
		d.Fail(1)
		err := c.do(v)
		isFault(t, err, c.op, c.at, api.ErrPower)
		if !d.Down() || !errors.Is(err, &fault.Fault{Op: c.op, At: c.at}) {
			t.Error(err)
		}
		d.Boot()
		if err := c.do(v); err != nil {
			t.Error("behind a boot", err)
		}
	}
}

// P5.2: Read, Force and Flush do one command each, and at once.
func TestOne(t *testing.T) {
	d, v := device(t, 4, 2)
	submit(t, d, nvme.Command{Kind: nvme.Write, Sector: 3, Data: full("other"), Tag: 1 << 30})
	if err := v.Write(put(0, "a"), put(1, "b")); err != nil {
		t.Error(err)
	}
	if err := v.Force(put(2, "c")); err != nil {
		t.Error(err)
	}
	for i, want := range []string{"a", "b", "c", ""} {
		if s, err := v.Read(i); err != nil || s != full(want) {
			t.Error(i, err)
		}
	}
	if r, w, f := d.Counts(); r != 4 || w != 3 || f != 0 {
		t.Error(r, w, f)
	}
	lost := d.Copy()
	lost.Crash()
	lost.Boot()
	holds(t, lost, "", "", "c", "")
	if err := v.Flush(); err != nil {
		t.Error(err)
	}
	if r, w, f := d.Counts(); r != 4 || w != 3 || f != 1 || len(d.Pending()) != 1 {
		t.Error(r, w, f)
	}
	d.Crash()
	d.Boot()
	holds(t, d, "a", "b", "c", "")
}

// completed: the sectors in the order in which a Write completes them. It is done anew for each one, on a device whose power fails there: the error tells the sector.
func completed(t *testing.T, depth, others int, choices []int, sectors ...int) []int {
	t.Helper()
	var order []int
	for n := 1; ; n++ {
		d, v := device(t, 20, depth)
		for range others {
			submit(t, d, nvme.Command{Kind: nvme.Read, Sector: 19})
		}
		v.Choose(choices...)
		d.Fail(n)
		var l []drive.Put
		for _, s := range sectors {
			l = append(l, put(s, "a"))
		}
		err := v.Write(l...)
		if err == nil {
			return order
		}
		f, ok := fault.Find(err)
		if !ok || n > len(sectors) {
			t.Fatal(err)
		}
		isFault(t, err, "write", f.At, api.ErrPower)
		order = append(order, f.At)
	}
}

// P5.2: the choices, and room in the queue.
func TestOrder(t *testing.T) {
	for _, c := range []struct {
		name          string
		depth, others int
		choices       []int
		sectors       []int
		want          []int
	}{
		{"none", 9, 0, nil, []int{5, 3, 4}, []int{5, 3, 4}},
		{"the example", 9, 0, []int{1}, []int{1, 2}, []int{2, 1}},
		{"one is no choice", 9, 0, []int{7}, []int{1}, []int{1}},
		{"from the first one again", 9, 0, []int{2, 0}, []int{1, 2, 3, 4, 5}, []int{3, 1, 5, 2, 4}},
		{"above n", 9, 0, []int{5}, []int{1, 2, 3}, []int{3, 2, 1}},
		{"below 0", 9, 0, []int{-1}, []int{1, 2, 3}, []int{3, 2, 1}},
		{"below -n", 9, 0, []int{-5, -4}, []int{1, 2, 3}, []int{2, 1, 3}},
		{"the least int", 9, 0, []int{math.MinInt}, []int{1, 2, 3}, []int{2, 1, 3}},
		{"the greatest int", 9, 0, []int{math.MaxInt}, []int{1, 2, 3}, []int{2, 3, 1}},
		{"a full queue", 2, 0, []int{1}, []int{1, 2, 3, 4}, []int{2, 3, 4, 1}},
		{"a full queue without choices", 2, 0, nil, []int{1, 2, 3, 4}, []int{1, 2, 3, 4}},
		{"a queue of one", 1, 0, []int{1, 2, 3}, []int{1, 2, 3, 4}, []int{1, 2, 3, 4}},
		{"full with others", 4, 2, []int{1}, []int{1, 2, 3, 4}, []int{2, 3, 4, 1}},
		{"one place beside others", 4, 3, []int{1}, []int{1, 2, 3, 4}, []int{1, 2, 3, 4}},
		{"just room", 4, 1, []int{-1}, []int{1, 2, 3}, []int{3, 2, 1}},
		{"one more than room", 4, 1, []int{-1}, []int{1, 2, 3, 4}, []int{3, 4, 2, 1}},
	} {
		if got := completed(t, c.depth, c.others, c.choices, c.sectors...); !slices.Equal(got, c.want) {
			t.Errorf("%s: %v, want %v", c.name, got, c.want)
		}
	}
}

// P5.2: choices go on from call to call; one command alone takes none; Choose begins anew, and keeps nothing that is handed in.
func TestChoicesGoOn(t *testing.T) {
	d, v := device(t, 4, 4)
	order := []int{1, 0}
	v.Choose(order...)
	order[0] = 0
	twice := func(want string) {
		t.Helper()
		if err := v.Write(put(0, "first"), put(0, "second")); err != nil {
			t.Error(err)
		}
		holds(t, d, want)
	}
	twice("first")
	v.Read(0)
	v.Force(put(1, "x"))
	v.Flush()
	v.Write(put(2, "x"))
	v.Write()
	v.Write(put(9, "refused"), put(2, "y"))
	twice("second")
	twice("first")
	v.Choose(1, 0)
	twice("first")
	v.Choose(1, 0)
	twice("first")
	v.Choose()
	twice("second")
	twice("second")
}

// P5.2: a choice that is taken where the power fails is taken; where nothing waits any more none is.
func TestChoicesAtFailure(t *testing.T) {
	d, v := device(t, 4, 4)
	v.Choose(0, 1, 0, 1)
	d.Fail(1)
	isFault(t, v.Write(put(1, "a"), put(2, "b"), put(3, "c")), "write", 1, api.ErrPower)
	d.Boot()
	if err := v.Write(put(0, "first"), put(0, "second")); err != nil {
		t.Error(err)
	}
	holds(t, d, "first", "", "", "")
}

// P5.2: where there is no room, and no own command waits.
func TestNoRoom(t *testing.T) {
	d, v := device(t, 4, 2)
	submit(t, d, nvme.Command{Kind: nvme.Read, Sector: 1, Tag: 1}, nvme.Command{Kind: nvme.Flush, Tag: 2})
	before := d.Pending()
	_, err := v.Read(3)
	isFault(t, err, "read", 3, api.ErrQueue)
	isFault(t, v.Force(put(2, "a")), "force", 2, api.ErrQueue)
	isFault(t, v.Flush(), "flush", 0, api.ErrQueue)
	isFault(t, v.Write(put(1, "a"), put(2, "a")), "write", 1, api.ErrQueue)
	isFault(t, v.Write(put(4, "a")), "write", 4, api.ErrArg)
	if !slices.Equal(d.Pending(), before) {
		t.Error(d.Pending())
	}
	holds(t, d, "", "", "", "")
}

// P5.2: the first error ends a Write; what was submitted by then is completed all the same.
func TestFirstErrorEnds(t *testing.T) {
	for depth := 2; depth <= 5; depth++ {
		d, v := device(t, 6, depth)
		submit(t, d, nvme.Command{Kind: nvme.Read, Sector: 1, Tag: 5})
		v.Choose(1)
		isFault(t, v.Write(put(0, "a"), put(1, "b"), put(2, "c"), put(6, "d"), put(3, "e"), drive.Put{}), "write", 6, api.ErrArg)
		holds(t, d, "a", "b", "c", "", "", "")
		isFault(t, v.Write(put(4, "a"), drive.Put{Sector: 5}, put(3, "e"), put(-1, "f")), "write", 5, api.ErrLong)
		holds(t, d, "a", "b", "c", "", "a", "")
		if l := d.Pending(); len(l) != 1 || l[0].Tag != 5 {
			t.Error(l)
		}
		d.Fail(2, 1)
		isFault(t, v.Write(put(4, "x"), put(5, "y"), put(8, "z"), put(3, "e")), "write", 8, api.ErrArg)
		if !d.Down() {
			t.Error("what waited wasn't completed")
		}
	}
}

// P5.2: the first error stays the answer, where the power fails behind it.
func TestPowerBehindAnError(t *testing.T) {
	d, v := device(t, 6, 6)
	v.Choose(2, 0, 1, 0)
	d.Fail(2)
	isFault(t, v.Write(put(0, "a"), put(1, "b"), put(2, "c"), put(6, "d")), "write", 6, api.ErrArg)
	if !d.Down() {
		t.Fatal("what waited wasn't completed")
	}
	d.Boot()
	// two choices were taken: the next one is 1
	if err := v.Write(put(0, "first"), put(0, "second")); err != nil {
		t.Error(err)
	}
	holds(t, d, "first", "", "", "")
}

// P5.3: others' commands wait on as they did, though they have the drive's Tags.
func TestOthersWait(t *testing.T) {
	d, v := device(t, 6, 6)
	var others []nvme.Command
	for i := range 4 {
		others = append(others, nvme.Command{Kind: nvme.Write, Sector: i, Data: full("other"), Tag: 1<<30 + i})
	}
	submit(t, d, others...)
	v.Choose(1, 0, 3)
	if err := v.Write(put(0, "a"), put(1, "b"), put(2, "c"), put(3, "d"), put(0, "e")); err != nil {
		t.Error(err)
	}
	if _, err := v.Read(1); err != nil {
		t.Error(err)
	}
	if v.Force(put(4, "f")) != nil || v.Flush() != nil {
		t.Error("forced")
	}
	if !slices.Equal(d.Pending(), others) {
		t.Error(d.Pending())
	}
	if s, _ := d.Look(1); s != full("b") {
		t.Error("another one was completed")
	}
}

// P5.3: sectors that come twice have the Data that was completed last.
func TestTwice(t *testing.T) {
	for _, c := range []struct {
		choices []int
		want    string
	}{{nil, "c"}, {[]int{2}, "b"}, {[]int{1}, "a"}, {[]int{0, 1}, "b"}, {[]int{-1}, "a"}} {
		d, v := device(t, 2, 8)
		v.Choose(c.choices...)
		if err := v.Write(put(1, "a"), put(1, "b"), put(1, "c")); err != nil {
			t.Error(err)
		}
		holds(t, d, "", c.want)
	}
}

// What is handed in isn't changed, the room behind it neither.
func TestHandedIn(t *testing.T) {
	_, v := device(t, 4, 2)
	l := []drive.Put{put(3, "a"), put(1, "b"), put(2, "c"), put(0, "d")}
	before := slices.Clone(l)
	order := []int{1, 1, 1, 5}
	v.Choose(order[:3]...)
	if err := v.Write(l[:3]...); err != nil {
		t.Error(err)
	}
	if !slices.Equal(l, before) || !slices.Equal(order, []int{1, 1, 1, 5}) {
		t.Error("what was handed in was changed")
	}
}
