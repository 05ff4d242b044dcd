package nvme_test

import (
	"math"
	"slices"
	"strings"
	"testing"

	"posthorse/api"
	"posthorse/nvme"
)

// full: a sector that begins with a text.
func full(s string) string { return s + strings.Repeat("\x00", api.Sector-len(s)) }

func read(sector int) nvme.Command { return nvme.Command{Kind: nvme.Read, Sector: sector} }

func write(sector int, s string) nvme.Command {
	return nvme.Command{Kind: nvme.Write, Sector: sector, Data: full(s)}
}

func force(sector int, s string) nvme.Command {
	return nvme.Command{Kind: nvme.Force, Sector: sector, Data: full(s)}
}

func flush() nvme.Command { return nvme.Command{Kind: nvme.Flush} }

func device(t *testing.T, sectors, depth int) *nvme.Device {
	t.Helper()
	d, err := nvme.New(sectors, depth)
	if err != nil || d == nil {
		t.Fatal(d, err)
	}
	return d
}

// submit commands, none of which is refused.
func submit(t *testing.T, d *nvme.Device, l ...nvme.Command) {
	t.Helper()
	for _, c := range l {
		if err := d.Submit(c); err != nil {
			t.Fatal(c.Kind, c.Sector, err)
		}
	}
}

// do commands: each one is submitted, and completed at once.
func do(t *testing.T, d *nvme.Device, l ...nvme.Command) {
	t.Helper()
	for _, c := range l {
		submit(t, d, c)
		if _, err := d.Complete(len(d.Pending()) - 1); err != nil {
			t.Fatal(c.Kind, c.Sector, err)
		}
	}
}

// holds: the sectors from 0 on hold these texts, as a look and a read find them.
func holds(t *testing.T, d *nvme.Device, l ...string) {
	t.Helper()
	for i, want := range l {
		if s, err := d.Look(i); err != nil || s != full(want) {
			t.Errorf("sector %d: %q %v, want %q", i, strings.TrimRight(s, "\x00"), err, want)
		}
		e := d.Copy()
		submit(t, e, read(i))
		if c, err := e.Complete(len(e.Pending()) - 1); err != nil || c.Data != full(want) {
			t.Errorf("sector %d, read: %q %v, want %q", i, strings.TrimRight(c.Data, "\x00"), err, want)
		}
	}
}

// P4.1: New and Size.
func TestNew(t *testing.T) {
	for _, c := range [][2]int{{1, 1}, {2048, 64}, {1, 64}, {2048, 1}, {7, 3}} {
		d := device(t, c[0], c[1])
		if s, n := d.Size(); s != c[0] || n != c[1] {
			t.Error(c, s, n)
		}
		if d.Down() || len(d.Pending()) != 0 {
			t.Error(c, "isn't new")
		}
		if r, w, f := d.Counts(); r != 0 || w != 0 || f != 0 {
			t.Error(r, w, f)
		}
		for _, at := range []int{0, c[0] - 1} {
			if s, err := d.Look(at); err != nil || s != full("") {
				t.Error(c, at, err)
			}
		}
	}
	for _, c := range [][2]int{{0, 1}, {1, 0}, {-1, 1}, {1, -1}, {2049, 1}, {1, 65}, {math.MaxInt, 1}, {1, math.MaxInt}, {math.MinInt, 1}, {1, math.MinInt}, {0, 0}} {
		if d, err := nvme.New(c[0], c[1]); d != nil || err != api.ErrArg {
			t.Error(c, d, err)
		}
	}
}

// P4.1: the kinds' numbers.
func TestKinds(t *testing.T) {
	if nvme.Read != 1 || nvme.Write != 2 || nvme.Force != 3 || nvme.Flush != 4 {
		t.Error("kinds")
	}
}

// P4.1: what Submit refuses, and which error comes first.
func TestSubmitErrors(t *testing.T) {
	short, long := strings.Repeat("a", 511), strings.Repeat("a", 513)
	for _, c := range []struct {
		name string
		c    nvme.Command
		want error
	}{
		{"kind 0", nvme.Command{}, api.ErrArg},
		{"kind 5", nvme.Command{Kind: 5, Data: full("")}, api.ErrArg},
		{"kind below", nvme.Command{Kind: -1}, api.ErrArg},
		{"kind, great", nvme.Command{Kind: math.MaxInt}, api.ErrArg},
		{"read below", read(-1), api.ErrArg},
		{"read above", read(4), api.ErrArg},
		{"read, great", read(math.MaxInt), api.ErrArg},
		{"read, small", read(math.MinInt), api.ErrArg},
		{"write below", write(-1, ""), api.ErrArg},
		{"write above", write(4, ""), api.ErrArg},
		{"force below", force(-1, ""), api.ErrArg},
		{"force above", force(4, ""), api.ErrArg},
		{"sector ahead of data", nvme.Command{Kind: nvme.Write, Sector: 4, Data: short}, api.ErrArg},
		{"write short", nvme.Command{Kind: nvme.Write, Sector: 3, Data: short}, api.ErrLong},
		{"write long", nvme.Command{Kind: nvme.Write, Sector: 3, Data: long}, api.ErrLong},
		{"write none", nvme.Command{Kind: nvme.Write}, api.ErrLong},
		{"force short", nvme.Command{Kind: nvme.Force, Sector: 3, Data: short}, api.ErrLong},
		{"force long", nvme.Command{Kind: nvme.Force, Sector: 3, Data: long}, api.ErrLong},
		{"read", read(3), nil},
		{"write", write(3, "a"), nil},
		{"force", force(0, "a"), nil},
		{"flush anywhere", nvme.Command{Kind: nvme.Flush, Sector: -5, Data: short}, nil},
	} {
		d := device(t, 4, 2)
		if err := d.Submit(c.c); err != c.want {
			t.Errorf("%s: %v", c.name, err)
		}
		if n := len(d.Pending()); (c.want == nil) != (n == 1) {
			t.Errorf("%s: %d wait", c.name, n)
		}
		submitFull(t, c.name, c.c, c.want)
	}
}

// submitFull: a full queue is told behind other errors; the power ahead of all.
func submitFull(t *testing.T, name string, c nvme.Command, want error) {
	t.Helper()
	d := device(t, 4, 2)
	submit(t, d, read(0), flush())
	if want == nil {
		want = api.ErrQueue
	}
	if err := d.Submit(c); err != want || len(d.Pending()) != 2 {
		t.Errorf("%s, at a full queue: %v", name, err)
	}
	d.Crash()
	if err := d.Submit(c); err != api.ErrPower || len(d.Pending()) != 0 {
		t.Errorf("%s, without power: %v", name, err)
	}
}

// P4.1: the queue takes depth commands, and again when one was completed.
func TestQueue(t *testing.T) {
	for _, depth := range []int{1, 3, 64} {
		d := device(t, 2, depth)
		for range depth {
			submit(t, d, write(1, "a"))
		}
		for range 3 {
			if err := d.Submit(read(0)); err != api.ErrQueue {
				t.Error(depth, err)
			}
			if _, err := d.Complete(depth / 2); err != nil {
				t.Error(depth, err)
			}
			submit(t, d, read(0))
		}
	}
}

// P4.1: Pending, with what doesn't count left out.
func TestPending(t *testing.T) {
	d := device(t, 8, 8)
	submit(t, d,
		nvme.Command{Kind: nvme.Read, Sector: 5, Data: "x", Tag: 7},
		nvme.Command{Kind: nvme.Write, Sector: 6, Data: full("w"), Tag: -7},
		nvme.Command{Kind: nvme.Flush, Sector: 99, Data: full("x"), Tag: math.MaxInt},
		nvme.Command{Kind: nvme.Force, Sector: 7, Data: full("f"), Tag: 7})
	want := []nvme.Command{
		{Kind: nvme.Read, Sector: 5, Tag: 7},
		{Kind: nvme.Write, Sector: 6, Data: full("w"), Tag: -7},
		{Kind: nvme.Flush, Tag: math.MaxInt},
		{Kind: nvme.Force, Sector: 7, Data: full("f"), Tag: 7},
	}
	l := d.Pending()
	if !slices.Equal(l, want) {
		t.Fatal(l)
	}
	l[0] = flush()
	slices.Reverse(l)
	if !slices.Equal(d.Pending(), want) {
		t.Error("the answer shares its memory")
	}
	if _, err := d.Complete(1); err != nil || !slices.Equal(d.Pending(), slices.Delete(slices.Clone(want), 1, 2)) {
		t.Error(d.Pending(), err)
	}
	kept := d.Pending()
	for range 3 {
		d.Complete(0)
	}
	if kept[0] != want[0] || kept[1] != want[2] || kept[2] != want[3] {
		t.Error("an older answer is changed")
	}
}

// P4.2: what Complete answers, of each kind.
func TestComplete(t *testing.T) {
	d := device(t, 4, 8)
	submit(t, d,
		nvme.Command{Kind: nvme.Write, Sector: 1, Data: full("a"), Tag: 10},
		nvme.Command{Kind: nvme.Read, Sector: 1, Data: "x", Tag: 11},
		nvme.Command{Kind: nvme.Force, Sector: 2, Data: full("b"), Tag: 12},
		nvme.Command{Kind: nvme.Flush, Sector: 3, Tag: 13},
		nvme.Command{Kind: nvme.Read, Sector: 1, Tag: 14})
	for _, c := range []struct {
		at   int
		want nvme.Command
	}{
		{1, nvme.Command{Kind: nvme.Read, Sector: 1, Data: full(""), Tag: 11}},
		{0, nvme.Command{Kind: nvme.Write, Sector: 1, Data: full("a"), Tag: 10}},
		{2, nvme.Command{Kind: nvme.Read, Sector: 1, Data: full("a"), Tag: 14}},
		{0, nvme.Command{Kind: nvme.Force, Sector: 2, Data: full("b"), Tag: 12}},
		{0, nvme.Command{Kind: nvme.Flush, Tag: 13}},
	} {
		if got, err := d.Complete(c.at); err != nil || got != c.want {
			t.Error(c.at, got.Kind, got.Tag, err)
		}
	}
	if r, w, f := d.Counts(); r != 2 || w != 2 || f != 1 {
		t.Error(r, w, f)
	}
	holds(t, d, "", "a", "b", "")
}

// P4.2: wrong places, and no power.
func TestCompleteErrors(t *testing.T) {
	d := device(t, 4, 8)
	if c, err := d.Complete(0); c != (nvme.Command{}) || err != api.ErrArg {
		t.Error(c, err)
	}
	submit(t, d, write(0, "a"), write(1, "b"))
	d.Fail(1)
	for _, i := range []int{-1, 2, 3, math.MaxInt, math.MinInt} {
		if c, err := d.Complete(i); c != (nvme.Command{}) || err != api.ErrArg {
			t.Error(i, c.Kind, err)
		}
	}
	if d.Down() || len(d.Pending()) != 2 {
		t.Error("a place that is none counts as a completion")
	}
	if c, err := d.Complete(0); c != (nvme.Command{}) || err != api.ErrPower || !d.Down() {
		t.Error(c.Kind, err)
	}
	for _, i := range []int{-1, 0, 1, 5} {
		if c, err := d.Complete(i); c != (nvme.Command{}) || err != api.ErrPower {
			t.Error(i, c.Kind, err)
		}
	}
	if r, w, f := d.Counts(); r != 0 || w != 0 || f != 0 {
		t.Error("what wasn't completed is counted", r, w, f)
	}
}

// P4.2: Look's errors; it counts as no read.
func TestLook(t *testing.T) {
	d := device(t, 4, 8)
	do(t, d, write(3, "z"))
	for _, i := range []int{-1, 4, math.MaxInt, math.MinInt} {
		if s, err := d.Look(i); s != "" || err != api.ErrArg {
			t.Error(i, s, err)
		}
	}
	if s, err := d.Look(3); s != full("z") || err != nil {
		t.Error(err)
	}
	submit(t, d, write(3, "y"), force(2, "x"))
	if s, _ := d.Look(3); s != full("z") {
		t.Error("what waits is seen")
	}
	if r, _, _ := d.Counts(); r != 0 {
		t.Error("a look is counted")
	}
	d.Crash()
	for _, i := range []int{-1, 0, 3, 4} {
		if s, err := d.Look(i); s != "" || err != api.ErrPower {
			t.Error(i, err)
		}
	}
}

// P4.2: a read finds what was completed last, not what was submitted last.
func TestLastCompleted(t *testing.T) {
	d := device(t, 2, 8)
	submit(t, d, write(0, "a"), write(0, "b"), write(1, "c"), force(0, "d"))
	for _, c := range []struct {
		at   int
		want string
	}{{1, "b"}, {0, "a"}, {1, "d"}, {0, "d"}} {
		if _, err := d.Complete(c.at); err != nil {
			t.Fatal(err)
		}
		if s, _ := d.Look(0); s != full(c.want) {
			t.Errorf("%q, want %q", s[:1], c.want)
		}
	}
	holds(t, d, "d", "c")
	do(t, d, write(0, "e"))
	holds(t, d, "e", "c")
	do(t, d, flush())
	holds(t, d, "e", "c")
	do(t, d, write(0, "f"), write(0, "g"))
	holds(t, d, "g", "c")
}

// P4.3: what lasts, and what is lost, without anything kept.
func TestWhatLasts(t *testing.T) {
	for _, c := range []struct {
		name string
		l    []nvme.Command
		want string
	}{
		{"write", []nvme.Command{write(0, "a")}, ""},
		{"write, flush", []nvme.Command{write(0, "a"), flush()}, "a"},
		{"flush, write", []nvme.Command{flush(), write(0, "a")}, ""},
		{"write, flush, write", []nvme.Command{write(0, "a"), flush(), write(0, "b")}, "a"},
		{"two writes, flush", []nvme.Command{write(0, "a"), write(0, "b"), flush()}, "b"},
		{"force", []nvme.Command{force(0, "a")}, "a"},
		{"write, force", []nvme.Command{write(0, "a"), force(0, "b")}, "b"},
		{"write, force, flush", []nvme.Command{write(0, "a"), force(0, "b"), flush()}, "b"},
		{"force, write", []nvme.Command{force(0, "a"), write(0, "b")}, "a"},
		{"force, write, flush", []nvme.Command{force(0, "a"), write(0, "b"), flush()}, "b"},
		{"force of another", []nvme.Command{write(0, "a"), force(1, "b")}, ""},
		{"force of another, flush", []nvme.Command{write(0, "a"), force(1, "b"), flush()}, "a"},
	} {
		for _, keep := range [][]int{nil, {}, {0}, {0, 0, 0}} {
			d := device(t, 2, 8)
			do(t, d, c.l...)
			d.Crash(keep...)
			d.Boot()
			if s, err := d.Look(0); err != nil || s != full(c.want) {
				t.Errorf("%s, kept by %v: %q %v", c.name, keep, s[:1], err)
			}
		}
	}
}

// P4.3: what is kept, of what was completed and of what waits.
func TestKept(t *testing.T) {
	for _, c := range []struct {
		keep []int
		want []string
	}{
		{nil, []string{"0", "", "", "", "", "L"}},
		{[]int{1}, []string{"e", "b", "c", "d", "f", "L"}},
		{[]int{-3}, []string{"e", "b", "c", "d", "f", "L"}},
		{[]int{math.MinInt, math.MaxInt}, []string{"e", "b", "c", "d", "f", "L"}},
		{[]int{1, 0}, []string{"e", "", "c", "", "", "L"}},
		{[]int{0, 1}, []string{"0", "b", "", "d", "f", "L"}},
		{[]int{1, 0, 0, 0, 0, 0}, []string{"a", "", "", "", "", "L"}},
		{[]int{0, 1, 0, 0, 0, 0}, []string{"0", "b", "", "", "", "L"}},
		{[]int{0, 0, 1, 0, 0, 0}, []string{"0", "", "c", "", "", "L"}},
		{[]int{0, 0, 0, 1, 0, 0}, []string{"0", "", "", "d", "", "L"}},
		{[]int{0, 0, 0, 0, 1, 0}, []string{"e", "", "", "", "", "L"}},
		{[]int{0, 0, 0, 0, 0, 1}, []string{"0", "", "", "", "f", "L"}},
		{[]int{0, 0, 0, 0, 0, 0, 1}, []string{"0", "", "", "", "", "L"}},
		{[]int{0, 0, 2}, []string{"0", "", "c", "", "f", "L"}},
	} {
		d := device(t, 6, 16)
		do(t, d, write(0, "0"), force(5, "K"), flush(), write(5, "l"), force(5, "L"))
		submit(t, d, read(1), write(3, "d"), write(1, "b"), flush(), write(0, "a"), force(0, "e"), flush(), write(2, "c"), read(0), write(4, "f"))
		for _, at := range []int{4, 2, 5} { // a, b, c
			if _, err := d.Complete(at); err != nil {
				t.Fatal(err)
			}
		}
		d.Crash(c.keep...)
		if !d.Down() || len(d.Pending()) != 0 {
			t.Error(c.keep, "something waits")
		}
		d.Boot()
		if d.Down() || len(d.Pending()) != 0 {
			t.Error(c.keep, "something waits")
		}
		holds(t, d, c.want...)
		// What was kept lasts; what wasn't is gone.
		d.Crash(1)
		d.Boot()
		holds(t, d, c.want...)
	}
}

// P4.3: the document's example.
func TestExample(t *testing.T) {
	d := device(t, 4, 4)
	submit(t, d, write(1, "a"), write(2, "b"))
	d.Complete(1)
	d.Crash(1, 0)
	d.Boot()
	holds(t, d, "", "", "b", "")
}

// P4.3: writes of one sector are each kept or lost by themselves.
func TestKeptOfOneSector(t *testing.T) {
	for _, c := range []struct {
		keep []int
		want string
	}{
		{[]int{1, 0, 0, 0}, "a"}, {[]int{1, 1, 0, 0}, "b"}, {[]int{0, 1, 1, 0}, "c"}, {[]int{1, 0, 0, 1}, "d"}, {[]int{0}, "z"},
	} {
		d := device(t, 1, 4)
		do(t, d, force(0, "z"), write(0, "a"), write(0, "b"))
		submit(t, d, write(0, "c"), write(0, "d"))
		d.Crash(c.keep...)
		d.Boot()
		holds(t, d, c.want)
	}
}

// P4.3: Fail comes at the n-th completion, instead of it.
func TestFail(t *testing.T) {
	for _, c := range []struct{ n, done int }{{1, 0}, {0, 0}, {-1, 0}, {math.MinInt, 0}, {2, 1}, {3, 2}, {5, 4}, {6, 5}, {math.MaxInt, 5}} {
		d := device(t, 5, 5)
		for i := range 5 {
			submit(t, d, force(i, "a"))
		}
		d.Fail(c.n)
		done := 0
		for range 5 {
			if _, err := d.Complete(0); err == nil {
				done++
			} else if err != api.ErrPower {
				t.Error(c.n, err)
			}
		}
		if done != c.done || d.Down() != (done < 5) {
			t.Error(c.n, done, d.Down())
		}
		d.Boot()
		holds(t, d, slices.Concat(slices.Repeat([]string{"a"}, done), slices.Repeat([]string{""}, 5-done))...)
		if _, w, _ := d.Counts(); w != done {
			t.Error(c.n, w)
		}
	}
}

// P4.3: reads and flushes are completions, too; what was to be completed may be kept, and a flush isn't done.
func TestFailKeeps(t *testing.T) {
	d := device(t, 4, 8)
	d.Fail(4, 1, 0, 1)
	do(t, d, read(0), write(0, "a"), write(1, "b"))
	submit(t, d, force(2, "c"), flush())
	if c, err := d.Complete(1); c != (nvme.Command{}) || err != api.ErrPower || !d.Down() {
		t.Error(c.Kind, err)
	}
	d.Boot()
	holds(t, d, "a", "", "c", "")
	if r, w, f := d.Counts(); r != 1 || w != 2 || f != 0 {
		t.Error(r, w, f)
	}
	do(t, d, flush())
	holds(t, d, "a", "", "c", "")
}

// P4.3: another Fail takes its place, with its keep and its count.
func TestFailAgain(t *testing.T) {
	d := device(t, 2, 4)
	d.Fail(2, 1)
	do(t, d, read(0))
	d.Fail(2)
	do(t, d, write(0, "a"))
	submit(t, d, write(1, "b"))
	if _, err := d.Complete(0); err != api.ErrPower {
		t.Error(err)
	}
	d.Boot()
	holds(t, d, "", "")
	do(t, d, read(0), read(0), read(0))
}

// P4.3: what Fail was handed in isn't kept.
func TestFailKeepIsCopied(t *testing.T) {
	d := device(t, 1, 4)
	keep := []int{1}
	d.Fail(1, keep...)
	keep[0] = 0
	submit(t, d, write(0, "a"))
	d.Complete(0)
	d.Boot()
	holds(t, d, "a")
}

// P4.3: Boot: no Fail waits, whether the power was off or on; and nothing else is changed while it is on.
func TestBoot(t *testing.T) {
	d := device(t, 2, 4)
	d.Fail(1)
	waits := []nvme.Command{write(0, "a"), write(1, "b")}
	submit(t, d, waits...)
	d.Boot()
	if !slices.Equal(d.Pending(), waits) {
		t.Error("what waited is lost")
	}
	if _, err := d.Complete(0); err != nil {
		t.Error(err)
	}
	d.Boot()
	holds(t, d, "a", "")
	d.Crash(1)
	d.Fail(1)
	d.Boot()
	do(t, d, read(0))
	d.Fail(1)
	d.Crash()
	d.Boot()
	do(t, d, read(0))
	holds(t, d, "a", "b")
}

// P4.3: a Crash without power does nothing.
func TestCrashTwice(t *testing.T) {
	d := device(t, 2, 4)
	do(t, d, write(0, "a"))
	submit(t, d, write(1, "b"))
	d.Crash(0)
	d.Crash(1)
	if s, n := d.Size(); s != 2 || n != 4 || !d.Down() {
		t.Error(s, n)
	}
	if r, w, f := d.Counts(); r != 0 || w != 1 || f != 0 {
		t.Error(r, w, f)
	}
	d.Boot()
	holds(t, d, "", "")
}

// P4.3: a copy is the same in all, and goes its own way.
func TestCopy(t *testing.T) {
	d := device(t, 3, 4)
	do(t, d, force(0, "a"), write(1, "b"), flush(), write(1, "c"), read(0))
	submit(t, d, write(2, "d"), read(0))
	d.Fail(2, 0, 1)
	e := d.Copy()
	for range 2 { // Whichever goes first, the other one is as it was.
		if s, n := e.Size(); s != 3 || n != 4 || e.Down() {
			t.Error(s, n)
		}
		if r, w, f := e.Counts(); r != 1 || w != 3 || f != 1 {
			t.Error(r, w, f)
		}
		if l := e.Pending(); !slices.Equal(l, []nvme.Command{write(2, "d"), read(0)}) {
			t.Error(l)
		}
		holdsLook(t, e, "a", "c", "")
		if _, err := e.Complete(1); err != nil {
			t.Error(err)
		}
		submit(t, e, flush())
		if _, err := e.Complete(1); err != api.ErrPower {
			t.Error(err)
		}
		if f := e.Copy(); !f.Down() {
			t.Error("the copy's power is on")
		}
		e.Boot()
		holdsLook(t, e, "a", "b", "d")
		do(t, e, force(0, "x"), write(1, "y"))
		e.Fail(1, 1)
		e, d = d, e
	}
}

// holdsLook: as holds, by looks alone.
func holdsLook(t *testing.T, d *nvme.Device, l ...string) {
	t.Helper()
	for i, want := range l {
		if s, err := d.Look(i); err != nil || s != full(want) {
			t.Errorf("sector %d: %q %v, want %q", i, strings.TrimRight(s, "\x00"), err, want)
		}
	}
}

// P4.3: lists that a device and its copy hold don't share the room behind their lengths.
func TestCopySharesNothing(t *testing.T) {
	d := device(t, 4, 8)
	do(t, d, write(0, "a"), write(1, "a"), write(2, "a"))
	submit(t, d, read(0), read(1), read(2))
	e := d.Copy()
	do(t, d, write(3, "d"))
	submit(t, d, read(3))
	do(t, e, write(3, "e"))
	submit(t, e, flush())
	holdsLook(t, d, "a", "a", "a", "d")
	holdsLook(t, e, "a", "a", "a", "e")
	if l := d.Pending(); l[3] != read(3) {
		t.Error(l)
	}
	if l := e.Pending(); l[3] != flush() {
		t.Error(l)
	}
	do(t, d, force(0, "z"))
	holdsLook(t, e, "a", "a", "a", "e")
	keep := []int{1, 0}
	d.Fail(1, keep...)
	f := d.Copy()
	f.Fail(1, 0, 1)
	if _, err := d.Complete(0); err != api.ErrPower {
		t.Error(err)
	}
	d.Boot()
	holdsLook(t, d, "z", "a", "", "d")
}

// P4.3 and P1: a nil device.
func TestNil(t *testing.T) {
	var d *nvme.Device
	if s, n := d.Size(); s != 0 || n != 0 {
		t.Error(s, n)
	}
	if err := d.Submit(flush()); err != api.ErrArg {
		t.Error(err)
	}
	if l := d.Pending(); len(l) != 0 {
		t.Error(l)
	}
	if c, err := d.Complete(0); c != (nvme.Command{}) || err != api.ErrArg {
		t.Error(c, err)
	}
	if s, err := d.Look(0); s != "" || err != api.ErrArg {
		t.Error(s, err)
	}
	if r, w, f := d.Counts(); r != 0 || w != 0 || f != 0 {
		t.Error(r, w, f)
	}
	d.Fail(1, 1)
	d.Crash(1)
	d.Boot()
	if !d.Down() || d.Copy() != nil {
		t.Error("nil is up")
	}
}
