package journal_test

import (
	"errors"
	"maps"
	"math/rand"
	"strconv"
	"testing"

	"posthorse/api"
	"posthorse/drive"
	"posthorse/journal"
	"posthorse/nvme"
)

// The journal of these tests, and the sectors that it gives data to: those ahead of it and behind it.
const (
	powerSectors = 20
	powerAt      = 2
	powerSize    = 10
)

var targets = []int{0, 1, 12, 13, 14, 19}

// known of the targets: what the commits gave that had no error; and the one under way when the power failed.
type known struct {
	sure  map[int]string
	under []drive.Put
}

func newKnown() *known {
	k := &known{sure: map[int]string{}}
	for _, s := range targets {
		k.sure[s] = noughts
	}
	return k
}

// found: does a device have just what is known? What it has is known for sure from then on. Was the transaction that was under way kept?
func (k *known) found(t *testing.T, d *nvme.Device) bool {
	t.Helper()
	got, with := map[int]string{}, maps.Clone(k.sure)
	for _, s := range targets {
		got[s], _ = d.Look(s)
	}
	for _, p := range k.under {
		with[p.Sector] = p.Data
	}
	kept := !maps.Equal(got, k.sure)
	if kept && !maps.Equal(got, with) {
		for _, s := range targets {
			t.Errorf("sector %d: %s, want %s or %s", s, short(got[s]), short(k.sure[s]), short(with[s]))
		}
	}
	k.sure, k.under = got, nil
	return kept
}

func (k *known) clone() *known { return &known{sure: maps.Clone(k.sure), under: k.under} }

// commit sectors (a Checkpoint, where there are none), and again behind a Checkpoint, where the ring is full; false, where the power failed.
func (k *known) commit(t *testing.T, j *journal.Journal, l []drive.Put) bool {
	t.Helper()
	if len(l) == 0 {
		return powered(t, j.Checkpoint())
	}
	err := j.Commit(l...)
	if err == api.ErrJournal {
		if !powered(t, j.Checkpoint()) {
			return false
		}
		err = j.Commit(l...)
	}
	if !powered(t, err) {
		k.under = l
		return false
	}
	for _, p := range l {
		k.sure[p.Sector] = p.Data
	}
	return true
}

// powered: false of ErrPower; no other error may be.
func powered(t *testing.T, err error) bool {
	t.Helper()
	if err != nil && !errors.Is(err, api.ErrPower) {
		t.Fatal(err)
	}
	return err == nil
}

// story: what is committed, one behind the other; nothing is a Checkpoint.
func story() [][]drive.Put {
	return [][]drive.Put{
		{put(0, "a1"), put(12, "PH a2")},
		{put(12, "b1"), put(19, "b2"), put(1, "b3")}, // the ring is full
		{put(12, "c1")},
		{put(13, "d1"), put(12, "d2")},
		nil,
		{put(14, "e1"), put(0, "e2"), put(1, "e3"), put(12, "e4"), put(13, "e5"), put(19, "e6")},
	}
}

// tell a story on a device of its own, with the power failing at the n-th completion; what is known then, and whether it failed.
func tell(t *testing.T, n int, keep, choices []int) (*nvme.Device, *known, bool) {
	t.Helper()
	d, v := device(t, powerSectors, 4)
	v.Choose(choices...)
	k := newKnown()
	if err := journal.Format(v, powerAt, powerSize); err != nil {
		t.Fatal(err)
	}
	j := open(t, v, powerAt, powerSize)
	d.Fail(n, keep...)
	failed := false
	for _, l := range story() {
		if failed = !k.commit(t, j, l); failed {
			break
		}
	}
	d.Crash(keep...)
	d.Boot()
	return d, k, failed
}

// reopen with the power failing at each completion in Open, and then once more at another one; at last it is opened.
func reopen(t *testing.T, d *nvme.Device, k *known, keep, choices []int) {
	t.Helper()
	for m := 1; ; m++ {
		e, was := d.Copy(), k.clone()
		v := drive.New(e)
		v.Choose(choices...)
		e.Fail(m, keep...)
		_, err := journal.Open(v, powerAt, powerSize)
		if err != nil {
			powered(t, err)
			e.Boot()
			e.Fail(powerSize+m%7, 0, 1, 1)
			_, again := journal.Open(v, powerAt, powerSize)
			powered(t, again)
			e.Boot()
			open(t, v, powerAt, powerSize)
		}
		was.found(t, e)
		// It lasts, and is the same when it is opened again.
		e.Crash(1, 0)
		e.Boot()
		open(t, v, powerAt, powerSize)
		if was.found(t, e) {
			t.Error("another Open finds something else")
		}
		if t.Failed() {
			t.Fatal("in Open at", m)
		}
		if err == nil {
			return
		}
	}
}

// P6.4: the power fails at every completion of a story, and at every one of the Open behind it, with this and that kept.
func TestPowerEverywhere(t *testing.T) {
	outcomes := map[bool]int{}
	for _, choices := range [][]int{nil, {1, 0, 2}, {-1}} {
		for _, keep := range [][]int{nil, {1}, {0, 1}, {1, 0}, {1, 1, 0}, {0, 0, 1}, {0, 1, 1, 1}, {1, 0, 0, 0, 1}} {
			for n := 1; ; n++ {
				d, k, failed := tell(t, n, keep, choices)
				reopen(t, d, k, keep, choices)
				under := len(k.under) > 0
				open(t, drive.New(d), powerAt, powerSize)
				kept := k.found(t, d)
				if t.Failed() {
					t.Fatal("choices", choices, "keep", keep, "at", n)
				}
				if under {
					outcomes[kept]++
				}
				if !failed {
					break
				}
			}
		}
	}
	if outcomes[true] == 0 || outcomes[false] == 0 {
		t.Error("not both ways were seen", outcomes)
	}
}

// randoms: some numbers below n.
func randoms(r *rand.Rand, most, n int) []int {
	l := make([]int, r.Intn(most))
	for i := range l {
		l[i] = r.Intn(n)
	}
	return l
}

// randomPuts: one to six of the targets; at times none.
func randomPuts(r *rand.Rand, step int) []drive.Put {
	var l []drive.Put
	for _, i := range r.Perm(len(targets))[:r.Intn(len(targets)+1)] {
		l = append(l, put(targets[i], strconv.Itoa(r.Intn(1000))+" of "+strconv.Itoa(step)))
	}
	return l
}

// P6.4: whatever is done, and however often the power fails, also while others' commands wait.
func TestPowerAgainAndAgain(t *testing.T) {
	for seed := range int64(150) {
		r := rand.New(rand.NewSource(seed))
		d, v := device(t, powerSectors, 2+r.Intn(6))
		if err := journal.Format(v, powerAt, powerSize); err != nil {
			t.Fatal(err)
		}
		k := newKnown()
		for life := range 30 {
			v.Choose(randoms(r, 4, 8)...)
			if r.Intn(2) == 0 {
				d.Submit(nvme.Command{Kind: nvme.Read, Sector: r.Intn(powerSectors), Tag: 1})
			}
			live(t, r, d, v, k)
			if t.Failed() {
				t.Fatal("seed", seed, "life", life)
			}
		}
	}
}

// live: open a journal, and commit till the power fails, perhaps in Open already, perhaps in a Format of the empty journal.
func live(t *testing.T, r *rand.Rand, d *nvme.Device, v *drive.Drive, k *known) {
	t.Helper()
	defer d.Boot()
	d.Fail(1+r.Intn(80), randoms(r, 6, 2)...)
	j, err := journal.Open(v, powerAt, powerSize)
	if !powered(t, err) {
		return
	}
	k.found(t, d)
	for step := range 20 {
		if !k.commit(t, j, randomPuts(r, step)) {
			return
		}
		for _, s := range targets {
			if got, err := j.Read(s); powered(t, err) && got != k.sure[s] {
				t.Errorf("sector %d: %s, want %s", s, short(got), short(k.sure[s]))
			}
		}
	}
	if powered(t, j.Checkpoint()) && r.Intn(3) == 0 {
		powered(t, journal.Format(v, powerAt, powerSize))
	}
}

// P6.4: what a transaction leaves behind that came to nothing is never taken for a part of a later one: here its data and its Descriptor were kept, but not its Commit, and the next one, at the same places, has the same sectors.
func TestLeftBehind(t *testing.T) {
	d, v, j := opened(t, 40, 5, 12)
	do(t, j, put(30, "a"))
	d.Fail(5) // at the Commit
	came(t, j.Commit(put(31, "b"), put(32, "c")), 3, api.ErrPower, "commit", "force")
	d.Boot()
	j = open(t, v, 5, 12)
	has(t, d, 5, head(3, 4))
	d.Fail(4) // at the Flush: nothing of it is kept
	came(t, j.Commit(put(31, "x"), put(32, "y")), 4, api.ErrPower, "commit", "flush")
	d.Boot()
	open(t, v, 5, 12)
	has(t, d, 31, noughts)
	has(t, d, 5, head(3, 5))
}

// P6.4: of a Commit that was under way, and is kept, all is given.
func TestKeptUnderWay(t *testing.T) {
	d, v, j := opened(t, 40, 5, 12)
	d.Fail(5, 1)
	came(t, j.Commit(put(31, "b"), put(32, "c")), 2, api.ErrPower, "commit", "force")
	d.Boot()
	open(t, v, 5, 12)
	has(t, d, 31, full("b"))
	has(t, d, 32, full("c"))
}
