package journal

import (
	"strings"

	"posthorse/api"
	"posthorse/drive"
	"posthorse/le"
	"posthorse/mark"
)

// How many bytes the parts of a head, a Descriptor and a Commit have.
const (
	placeSize  = 2
	numberSize = 6
	countSize  = 1
	sectorSize = 2
	sumSize    = 4
)

// maxNumber of a head or a transaction.
const maxNumber = 1<<(8*numberSize) - 1

// cut stands in the ring in the place of a sector's first bytes, which are kept in the Descriptor: so no data, whatever they are, look like a sealed sector there.
const cut = "\x00\x00\x00\x00"

// placesOf the ring that a transaction of k sectors takes: a Descriptor and a Commit are about them.
func placesOf(k int) int { return k + 2 }

// head of a journal: where in the ring the next transaction begins, and which number it has.
type head struct {
	place, number int
}

// seal a head.
func (h head) seal() (string, error) {
	if h.number > maxNumber {
		return "", api.ErrCorrupt
	}
	return mark.Seal(mark.Journal, le.Put(h.place, placeSize)+le.Put(h.number, numberSize))
}

// openHead of a sector.
func openHead(s string) (head, error) {
	body, err := mark.Open(mark.Journal, s)
	if err != nil {
		return head{}, err
	}
	in := le.Read(body)
	place := in.Num(placeSize)
	return head{place: place, number: in.Num(numberSize)}, nil
}

// sealTransaction: its sectors of the ring, one behind the other.
func sealTransaction(number int, l []drive.Put) ([]string, error) {
	if number > maxNumber {
		return nil, api.ErrCorrupt
	}
	var o le.Out
	o.Num(number, numberSize)
	o.Num(len(l), countSize)
	data := make([]string, len(l))
	for i, p := range l {
		o.Num(p.Sector, sectorSize)
		o.Text(p.Data[:len(cut)], len(cut))
		data[i] = cut + p.Data[len(cut):]
	}
	body, err := o.String()
	if err != nil {
		return nil, err
	}
	descriptor, err := mark.Seal(mark.Descriptor, body)
	if err != nil {
		return nil, err
	}
	commit, err := mark.Seal(mark.Commit, commitBody(number, data))
	if err != nil {
		return nil, err
	}
	return append(append([]string{descriptor}, data...), commit), nil
}

// commitBody of the Commit that goes with these sectors of the ring.
func commitBody(number int, data []string) string {
	sum := mark.Sum(strings.Join(data, ""))
	return le.Put(number, numberSize) + le.Put(len(data), countSize) + le.Put(int(sum), sumSize)
}

// transaction of a number that stands at the beginning of what is left of the ring's round: what it gives; nothing, where there is none that counts.
func (a area) transaction(rest []string, number int) []drive.Put {
	if len(rest) == 0 {
		return nil
	}
	body, err := mark.Open(mark.Descriptor, rest[0])
	if err != nil {
		return nil
	}
	in := le.Read(body)
	told, k := in.Num(numberSize), in.Num(countSize)
	if told != number || k < 1 || k > api.MaxTxn || placesOf(k) > len(rest) {
		return nil
	}
	data, commit := rest[1:k+1], rest[k+1]
	l := make([]drive.Put, k)
	for i, s := range data {
		l[i].Sector = in.Num(sectorSize)
		l[i].Data = in.Text(len(cut)) + s[len(cut):]
		if a.isStrange(l[i].Sector) {
			return nil
		}
	}
	if !goesWith(commit, number, data) {
		return nil
	}
	return l
}

// goesWith: is a sector the Commit of that number, of these sectors of the ring?
func goesWith(commit string, number int, data []string) bool {
	body, err := mark.Open(mark.Commit, commit)
	return err == nil && strings.HasPrefix(body, commitBody(number, data))
}

// lastNumber: the greatest one that Descriptors and Commits of the ring tell; 0, where there are none.
func lastNumber(ring []string) int {
	last := 0
	for _, s := range ring {
		last = max(last, numberOf(s))
	}
	return last
}

// numberOf a Descriptor or a Commit; 0 of all else.
func numberOf(s string) int {
	for _, kind := range [...]int{mark.Descriptor, mark.Commit} {
		if body, err := mark.Open(kind, s); err == nil {
			return le.Get(body[:numberSize])
		}
	}
	return 0
}
