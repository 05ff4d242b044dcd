package meta

import (
	"posthorse/api"
	"posthorse/le"
	"posthorse/look"
	"posthorse/mark"
)

// Bytes of a meta's parts in its sector.
const (
	batchSize  = 6
	rootSize   = 2
	heightSize = 1
	keysSize   = 2
	gapSize    = 1
	bitsSize   = api.MaxPages / 8
	allSize    = batchSize + rootSize + heightSize + keysSize + gapSize + bitsSize
)

// bits: a page's is 1 where the page is used.
type bits [bitsSize]byte

// bit of a page: where its byte is, and its value there.
func bit(n int) (int, byte) { return n / 8, 1 << (n % 8) }

// has: is a page's bit 1?
func (b *bits) has(n int) bool {
	at, v := bit(n)
	return b[at]&v != 0
}

// bitsOf pages. Numbers that no page has have no bit, either: a meta that is made by hand may have such.
func bitsOf(used []int) *bits {
	var b bits
	for _, n := range used {
		if n >= 0 && n < api.MaxPages {
			at, v := bit(n)
			b[at] |= v
		}
	}
	return &b
}

// pages whose bits are 1, by rising numbers.
func (b *bits) pages() []int {
	var l []int
	for n := range api.MaxPages {
		if b.has(n) {
			l = append(l, n)
		}
	}
	return l
}

// Put: a meta as a sector.
func Put(m Meta) (string, error) {
	if !Right(m) {
		return "", api.ErrArg
	}
	var o le.Out
	o.Num(m.Batch, batchSize)
	o.Num(m.Tree.Root, rootSize)
	o.Num(m.Tree.Height, heightSize)
	o.Num(m.Keys, keysSize)
	o.Num(0, gapSize)
	o.Text(string(bitsOf(m.Used)[:]), bitsSize)
	body, err := o.String()
	if err != nil {
		return "", err
	}
	return mark.Seal(mark.Meta, body)
}

// Get the meta of a sector.
func Get(s string) (Meta, error) {
	body, err := mark.Open(mark.Meta, s)
	if err != nil {
		return Meta{}, err
	}
	m, err := take(body)
	if err != nil {
		return Meta{}, err
	}
	if !Right(m) {
		return Meta{}, api.ErrCorrupt
	}
	return m, nil
}

// take a meta out of a sector's body, be it right or not.
func take(body string) (Meta, error) {
	in := le.Read(body)
	m := Meta{Batch: in.Num(batchSize)}
	m.Tree = look.Tree{Root: in.Num(rootSize), Height: in.Num(heightSize)}
	m.Keys = in.Num(keysSize)
	in.Noughts(gapSize)
	var b bits
	copy(b[:], in.Text(bitsSize))
	in.Noughts(len(body) - allSize)
	if err := in.End(); err != nil {
		return Meta{}, err
	}
	m.Used = b.pages()
	return m, nil
}
