package journal_test

import (
	"encoding/binary"
	"strconv"
	"strings"
	"testing"

	"posthorse/api"
	"posthorse/drive"
	"posthorse/fault"
	"posthorse/journal"
	"posthorse/mark"
	"posthorse/nvme"
)

// number of size bytes, the lowest first.
func number(n, size int) string {
	return string(binary.LittleEndian.AppendUint64(nil, uint64(n))[:size])
}

// full: a sector that begins with a text, and whose last byte isn't 0.
func full(s string) string { return s + strings.Repeat("\x00", api.Sector-len(s)-1) + "\x07" }

var noughts = strings.Repeat("\x00", api.Sector)

func put(sector int, s string) drive.Put { return drive.Put{Sector: sector, Data: full(s)} }

func seal(kind int, body string) string {
	s, err := mark.Seal(kind, body)
	if err != nil {
		panic(err)
	}
	return s
}

// head of a journal, by the document's words.
func head(place, n int) string { return seal(mark.Journal, number(place, 2)+number(n, 6)) }

// descriptor that says k, of these sectors.
func descriptor(n, k int, l ...drive.Put) string {
	body := number(n, 6) + number(k, 1)
	for _, p := range l {
		body += number(p.Sector, 2) + p.Data[:4]
	}
	return seal(mark.Descriptor, body)
}

// data of sectors, as they stand in the ring.
func data(l ...drive.Put) []string {
	var out []string
	for _, p := range l {
		out = append(out, "\x00\x00\x00\x00"+p.Data[4:])
	}
	return out
}

// commit that says k, of these sectors of the ring.
func commit(n, k int, ring ...string) string {
	return seal(mark.Commit, number(n, 6)+number(k, 1)+number(int(mark.Sum(strings.Join(ring, ""))), 4))
}

// transaction as its sectors of the ring.
func transaction(n int, l ...drive.Put) []string {
	out := append([]string{descriptor(n, len(l), l...)}, data(l...)...)
	return append(out, commit(n, len(l), data(l...)...))
}

func device(t *testing.T, sectors, depth int) (*nvme.Device, *drive.Drive) {
	t.Helper()
	d, err := nvme.New(sectors, depth)
	if err != nil {
		t.Fatal(err)
	}
	return d, drive.New(d)
}

// force sectors onto a device, from one on.
func force(t *testing.T, v *drive.Drive, from int, l ...string) {
	t.Helper()
	for i, s := range l {
		if err := v.Force(drive.Put{Sector: from + i, Data: s}); err != nil {
			t.Fatal(err)
		}
	}
}

// lay sectors into the ring of a journal at at, of n, from a place on, round its end.
func lay(t *testing.T, v *drive.Drive, at, n, place int, l ...string) {
	t.Helper()
	for i, s := range l {
		force(t, v, at+1+(place+i)%(n-1), s)
	}
}

// opened journal, of a device that was formatted.
func opened(t *testing.T, sectors, at, n int) (*nvme.Device, *drive.Drive, *journal.Journal) {
	t.Helper()
	d, v := device(t, sectors, 8)
	if err := journal.Format(v, at, n); err != nil {
		t.Fatal(err)
	}
	return d, v, open(t, v, at, n)
}

func open(t *testing.T, v *drive.Drive, at, n int) *journal.Journal {
	t.Helper()
	j, err := journal.Open(v, at, n)
	if err != nil || j == nil {
		t.Fatal(err)
	}
	return j
}

func do(t *testing.T, j *journal.Journal, l ...drive.Put) {
	t.Helper()
	if err := j.Commit(l...); err != nil {
		t.Fatal(err)
	}
}

// has: does a sector have this?
func has(t *testing.T, d *nvme.Device, sector int, want string) {
	t.Helper()
	if s, err := d.Look(sector); err != nil || s != want {
		t.Errorf("sector %d: %q %v, want %q", sector, short(s), err, short(want))
	}
}

func short(s string) string { return strconv.Quote(strings.TrimRight(s, "\x00\x07")) }

// room: what Room tells.
func room(t *testing.T, j *journal.Journal, n, waits int) {
	t.Helper()
	if m, w := j.Room(); m != n || w != waits {
		t.Errorf("room %d %d, want %d %d", m, w, n, waits)
	}
}

// state of a device: all its sectors.
func state(t *testing.T, d *nvme.Device) []string {
	t.Helper()
	sectors, _ := d.Size()
	l := make([]string, sectors)
	for i := range l {
		s, err := d.Look(i)
		if err != nil {
			t.Fatal(err)
		}
		l[i] = s
	}
	return l
}

// came: did an error come through these operations, the outermost first, at a place, of a number?
func came(t *testing.T, err error, at int, n api.Errno, ops ...string) {
	t.Helper()
	f, ok := err.(*fault.Fault)
	if !ok || f.At != at || fault.Number(err) != n || strings.Join(fault.Ops(err), " ") != strings.Join(ops, " ") {
		t.Errorf("%v, want %v at %d, of %v", err, ops, at, n)
	}
}
