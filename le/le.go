// Package le is layer 1: see shared/doc/01-le.md.
package le

import (
	"strings"

	"posthorse/api"
)

// maxSize is how many bytes a number has at most: with one more it could be above every int.
const maxSize = 7

// maxOut is how many bytes an Out takes in: the document promises nothing beyond so many, and a padding of any int's size could not be made at all.
const maxOut = 1<<31 - 1

// isSize: is it a number's size?
func isSize(size int) bool { return size >= 1 && size <= maxSize }

// Put: a number's bytes, the lowest first.
func Put(n, size int) string {
	if !isSize(size) || n < 0 || n>>(8*size) != 0 {
		return ""
	}
	var b [maxSize]byte
	for i := range size {
		b[i] = byte(n >> (8 * i))
	}
	return string(b[:size])
}

// Get the number of bytes.
func Get(s string) int {
	if len(s) > maxSize {
		return 0
	}
	n := 0
	for i := range len(s) {
		n |= int(s[i]) << (8 * i)
	}
	return n
}

// Out is bytes that are put together.
type Out struct {
	bytes []byte
	long  bool
}

// Num: a number of so many bytes.
func (o *Out) Num(n, size int) {
	s := Put(n, size)
	if s == "" {
		o.spoil()
		return
	}
	o.Text(s, size)
}

// Text of so many bytes, with noughts behind.
func (o *Out) Text(s string, size int) {
	if o == nil || o.long {
		return
	}
	// A size below 0 is below every text's length, too.
	if size < len(s) || size > maxOut-len(o.bytes) {
		o.spoil()
		return
	}
	o.bytes = append(o.bytes, s...)
	o.bytes = append(o.bytes, make([]byte, size-len(s))...)
}

// spoil: from now on there is an error, and the bytes are of no use any more.
func (o *Out) spoil() {
	if o != nil {
		o.bytes, o.long = nil, true
	}
}

// String: the bytes; an error, if something didn't go into its bytes.
func (o *Out) String() (string, error) {
	if o == nil {
		return "", api.ErrArg
	}
	if o.long {
		return "", api.ErrLong
	}
	return string(o.bytes), nil
}

// In is bytes that are read.
type In struct {
	rest string
	err  error
}

// Read bytes.
func Read(s string) *In { return &In{rest: s} }

// Num: a number of so many bytes.
func (i *In) Num(size int) int {
	if !isSize(size) {
		i.fail(api.ErrArg)
		return 0
	}
	return Get(i.Text(size))
}

// Text of so many bytes.
func (i *In) Text(size int) string {
	if i == nil || i.err != nil {
		return ""
	}
	if size < 0 {
		i.fail(api.ErrArg)
		return ""
	}
	if size > len(i.rest) {
		i.fail(api.ErrForm)
		return ""
	}
	s := i.rest[:size]
	i.rest = i.rest[size:]
	return s
}

// Noughts: so many bytes that are all 0.
func (i *In) Noughts(size int) {
	if strings.Trim(i.Text(size), "\x00") != "" {
		i.fail(api.ErrForm)
	}
}

// fail: the first error stays, and nothing is read behind it.
func (i *In) fail(err error) {
	if i != nil && i.err == nil {
		i.rest, i.err = "", err
	}
}

// End of what is read: the first error.
func (i *In) End() error {
	if i == nil {
		return api.ErrArg
	}
	if i.err != nil {
		return i.err
	}
	// Not kept as an error: more may be read behind it.
	if i.rest != "" {
		return api.ErrLong
	}
	return nil
}
