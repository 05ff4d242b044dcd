package journal

import (
	"maps"
	"slices"

	"posthorse/api"
	"posthorse/drive"
)

// How many sectors a journal has.
const (
	minSectors = 8
	maxSectors = 512
)

// area of a device that is a journal's: its head, and the ring behind it.
type area struct {
	drive *drive.Drive
	at, n int
}

// areaOf a drive's device; an error, where there can't be one.
func areaOf(v *drive.Drive, at, n int) (area, error) {
	a := area{drive: v, at: at, n: n}
	if v == nil || at < 0 || n < minSectors || n > maxSectors || at > a.deviceSectors()-n {
		return area{}, api.ErrArg
	}
	return a, nil
}

// deviceSectors: how many the device has.
func (a area) deviceSectors() int {
	sectors, _ := a.drive.Device().Size()
	return sectors
}

// places of the ring.
func (a area) places() int { return a.n - 1 }

// round the ring's end: a place that is counted on behind it.
func (a area) round(place int) int { return place % a.places() }

// sectorOf a place of the ring.
func (a area) sectorOf(place int) int { return a.at + 1 + a.round(place) }

// isStrange: is it a sector that no transaction may have: not the device's, or the journal's own?
func (a area) isStrange(sector int) bool {
	return sector < 0 || sector >= a.deviceSectors() || sector >= a.at && sector < a.at+a.n
}

// readRing: what its places have.
func (a area) readRing() ([]string, error) {
	ring := make([]string, a.places())
	for i := range ring {
		s, err := a.drive.Read(a.sectorOf(i))
		if err != nil {
			return nil, err
		}
		ring[i] = s
	}
	return ring, nil
}

// readHead: what the head has; an error, where that isn't one of this ring.
func (a area) readHead() (head, error) {
	s, err := a.drive.Read(a.at)
	if err != nil {
		return head{}, err
	}
	h, err := openHead(s)
	if err != nil {
		return head{}, err
	}
	if h.place >= a.places() {
		return head{}, api.ErrCorrupt
	}
	return h, nil
}

// format: the head is forced, of an empty ring.
func (a area) format() error {
	ring, err := a.readRing()
	if err != nil {
		return err
	}
	s, err := head{number: lastNumber(ring) + 1}.seal()
	if err != nil {
		return err
	}
	return a.drive.Force(drive.Put{Sector: a.at, Data: s})
}

// redo what counts, so that the ring is empty: its head then.
func (a area) redo() (head, error) {
	h, err := a.readHead()
	if err != nil {
		return head{}, err
	}
	ring, err := a.readRing()
	if err != nil {
		return head{}, err
	}
	given, taken := a.counting(ring, h)
	// A number that was given ever, even to a transaction that came to nothing, isn't given again: else what is left of that one could be taken for a part of the new one. (The numbers that count stand in the ring, too.)
	next := head{place: a.round(h.place + taken), number: max(h.number, lastNumber(ring)) + 1}
	return next, a.settle(given, next)
}

// counting: what the transactions that count gave, by the sectors, and how many places they take.
func (a area) counting(ring []string, h head) (map[int]drive.Put, int) {
	given := map[int]drive.Put{}
	rest := slices.Concat(ring[h.place:], ring[:h.place])
	for number := h.number; ; number++ {
		l := a.transaction(rest, number)
		if len(l) == 0 {
			return given, len(ring) - len(rest)
		}
		for _, p := range l {
			given[p.Sector] = p
		}
		rest = rest[placesOf(len(l)):]
	}
}

// record a transaction in the ring, at the place and with the number of a head.
func (a area) record(h head, l []drive.Put) error {
	sealed, err := sealTransaction(h.number, l)
	if err != nil {
		return err
	}
	puts := make([]drive.Put, len(sealed))
	for i, s := range sealed {
		puts[i] = drive.Put{Sector: a.sectorOf(h.place + i), Data: s}
	}
	last := len(puts) - 1
	return a.writeThenForce(puts[:last], puts[last])
}

// settle: sectors are written to their places, by rising numbers, and the head goes on.
func (a area) settle(given map[int]drive.Put, next head) error {
	s, err := next.seal() // first: where there can't be such a head nothing is written
	if err != nil {
		return err
	}
	var puts []drive.Put
	for _, sector := range slices.Sorted(maps.Keys(given)) {
		puts = append(puts, given[sector])
	}
	return a.writeThenForce(puts, drive.Put{Sector: a.at, Data: s})
}

// writeThenForce: the last one says that all the others are there, so it is written only when those last.
func (a area) writeThenForce(l []drive.Put, last drive.Put) error {
	if err := a.drive.Write(l...); err != nil {
		return err
	}
	if err := a.drive.Flush(); err != nil {
		return err
	}
	return a.drive.Force(last)
}
