package page

import (
	"posthorse/api"
	"posthorse/le"
	"posthorse/mark"
)

// The first byte of a page's body.
const (
	leafMark = iota + 1
	innerMark
)

// Bytes of a page's parts in its sector.
const (
	byteSize  = 1
	kidSize   = 2
	headSize  = 4 * byteSize
	leafSize  = 2*byteSize + api.MaxKey + api.MaxValue
	innerSize = 2*byteSize + kidSize + api.MaxKey
)

// markOf a page of a level, and how many bytes each of its entries has.
func markOf(level int) (int, int) {
	if level == 0 {
		return leafMark, leafSize
	}
	return innerMark, innerSize
}

// Put: a page as a sector.
func Put(p Page) (string, error) {
	if !Right(p) {
		return "", api.ErrArg
	}
	first, _ := markOf(p.Level)
	var o le.Out
	o.Num(first, byteSize)
	o.Num(len(p.Keys), byteSize)
	o.Num(p.Level, byteSize)
	o.Num(0, byteSize)
	for i := range p.Keys {
		putEntry(&o, p, i)
	}
	body, err := o.String()
	if err != nil {
		return "", err
	}
	return mark.Seal(mark.Page, body)
}

// putEntry: an entry of a right page.
func putEntry(o *le.Out, p Page, i int) {
	key := p.Keys[i]
	o.Num(len(key), byteSize)
	if p.Level == 0 {
		value := p.Values[i]
		o.Num(len(value), byteSize)
		o.Text(key, api.MaxKey)
		o.Text(value, api.MaxValue)
		return
	}
	o.Num(p.Kids[i], kidSize)
	o.Num(0, byteSize)
	o.Text(key, api.MaxKey)
}

// Get the page of a sector.
func Get(s string) (Page, error) {
	body, err := mark.Open(mark.Page, s)
	if err != nil {
		return Page{}, err
	}
	p, err := take(body)
	if err != nil {
		return Page{}, err
	}
	if !Right(p) {
		return Page{}, api.ErrCorrupt
	}
	return p, nil
}

// take a page out of a sector's body, be it right or not.
func take(body string) (Page, error) {
	in := le.Read(body)
	first, n := in.Num(byteSize), in.Num(byteSize)
	p := Page{Level: in.Num(byteSize)}
	in.Noughts(byteSize)
	want, size := markOf(p.Level)
	for range n {
		p = takeEntry(in, p)
	}
	in.Noughts(len(body) - headSize - n*size)
	// The first byte tells a leaf from an inner page, as the Level does: where the two disagree it is the form that is wrong.
	if first != want || in.End() != nil {
		return Page{}, api.ErrForm
	}
	return p, nil
}

// takeEntry: the page with the entry that comes next.
func takeEntry(in *le.In, p Page) Page {
	size := in.Num(byteSize)
	if p.Level == 0 {
		long := in.Num(byteSize)
		p.Keys = append(p.Keys, takeText(in, size, api.MaxKey))
		p.Values = append(p.Values, takeText(in, long, api.MaxValue))
		return p
	}
	p.Kids = append(p.Kids, in.Num(kidSize))
	in.Noughts(byteSize)
	p.Keys = append(p.Keys, takeText(in, size, api.MaxKey))
	return p
}

// takeText: a text of so many bytes, with noughts up to its room. Of one that is longer than its room the noughts are less than none, which is an error of the reader, too.
func takeText(in *le.In, size, room int) string {
	s := in.Text(size)
	in.Noughts(room - size)
	return s
}
