package mark_test

import (
	"hash/crc32"
	"math"
	"math/rand"
	"strings"
	"testing"

	"posthorse/api"
	"posthorse/mark"
)

// everyByte: all 256 of them.
func everyByte() string {
	var b [256]byte
	for i := range b {
		b[i] = byte(i)
	}
	return string(b[:])
}

// bitwise: the sum as the document tells it, bit by bit.
func bitwise(s string) uint32 {
	r := uint32(0xffffffff)
	for _, b := range []byte(s) {
		r ^= uint32(b)
		for range 8 {
			out := r & 1
			r >>= 1
			if out == 1 {
				r ^= 0x82f63b78
			}
		}
	}
	return ^r
}

func seal(t *testing.T, kind int, body string) string {
	t.Helper()
	s, err := mark.Seal(kind, body)
	if err != nil || len(s) != api.Sector {
		t.Fatal(kind, len(s), err)
	}
	return s
}

// P3.1: the sum.
func TestSum(t *testing.T) {
	for _, c := range []struct {
		s    string
		want uint32
	}{
		{"", 0},
		{"123456789", 0xe3069283},
		{strings.Repeat("\x00", 32), 0x8a9136aa},
		{strings.Repeat("\xff", 32), 0x62a8ab43},
	} {
		if n := mark.Sum(c.s); n != c.want {
			t.Errorf("%q: %x, want %x", c.s, n, c.want)
		}
	}
	for _, b := range []byte(everyByte()) {
		if s := string([]byte{b}); mark.Sum(s) != bitwise(s) {
			t.Errorf("%x", b)
		}
	}
	table := crc32.MakeTable(crc32.Castagnoli)
	r := rand.New(rand.NewSource(1))
	for n := range 700 {
		b := make([]byte, n)
		r.Read(b)
		s := string(b)
		if got := mark.Sum(s); got != bitwise(s) || got != crc32.Checksum(b, table) {
			t.Errorf("%d bytes: %x", n, got)
		}
	}
}

// P3.2: the kinds' numbers, and the body's room.
func TestConstants(t *testing.T) {
	for i, k := range []int{mark.Super, mark.Journal, mark.Descriptor, mark.Commit, mark.Bits, mark.Inode, mark.Meta, mark.Page} {
		if k != i+1 {
			t.Errorf("the kind at %d is %d", i, k)
		}
	}
	if mark.Room != 504 {
		t.Error(mark.Room)
	}
}

// P3.2: a sealed sector's bytes.
func TestSealBytes(t *testing.T) {
	for _, body := range []string{"", "a", "ab\x00c", everyByte(), strings.Repeat("z", 503), strings.Repeat("\xff", 504)} {
		ahead := "\x50\x48\x08\x00" + body + strings.Repeat("\x00", 504-len(body))
		n := bitwise(ahead)
		want := ahead + string([]byte{byte(n), byte(n >> 8), byte(n >> 16), byte(n >> 24)})
		if s := seal(t, mark.Page, body); s != want {
			t.Errorf("body of %d bytes: %x", len(body), s)
		}
	}
}

// P3.2: what is sealed is opened as that kind, of each kind that there may be.
func TestSealOpen(t *testing.T) {
	for kind := 1; kind <= 255; kind++ {
		body := "body of a kind " + string(rune(kind))
		s := seal(t, kind, body)
		if s[2] != byte(kind) || mark.Kind(s) != kind {
			t.Errorf("kind %d: %d", kind, mark.Kind(s))
		}
		b, err := mark.Open(kind, s)
		if err != nil || b != body+strings.Repeat("\x00", mark.Room-len(body)) {
			t.Errorf("kind %d: %q %v", kind, b, err)
		}
		for _, other := range []int{0, kind - 1, kind + 1, -kind, kind + 256, kind - 256, kind + 1<<32, 300, math.MaxInt, math.MinInt} {
			if b, err := mark.Open(other, s); b != "" || err != api.ErrForm {
				t.Errorf("kind %d, opened as %d: %q %v", kind, other, b, err)
			}
		}
	}
}

// P3.2: wrong arguments of Seal, the kind first.
func TestSealWrong(t *testing.T) {
	long := strings.Repeat("a", 505)
	for _, kind := range []int{0, -1, 256, 257, 264, 1<<32 + 8, math.MaxInt, math.MinInt} {
		for _, body := range []string{"", "a", long} {
			if s, err := mark.Seal(kind, body); s != "" || err != api.ErrArg {
				t.Errorf("kind %d: %q %v", kind, s, err)
			}
		}
	}
	for _, body := range []string{long, strings.Repeat("\x00", 505), strings.Repeat("a", 1<<16)} {
		if s, err := mark.Seal(mark.Super, body); s != "" || err != api.ErrLong {
			t.Errorf("%d bytes: %v", len(body), err)
		}
	}
}

// P3.2: what isn't a sealed sector, by its form; its sum doesn't count then.
func TestOpenForm(t *testing.T) {
	s := seal(t, mark.Page, "ab")
	for name, x := range map[string]string{
		"empty":         "",
		"three bytes":   "PH\x08",
		"four bytes":    "PH\x08\x00",
		"a byte less":   s[:511],
		"a byte more":   s + "\x00",
		"twice":         s + s,
		"noughts":       strings.Repeat("\x00", 512),
		"first byte":    "p" + s[1:],
		"second byte":   s[:1] + "h" + s[2:],
		"kind":          s[:2] + "\x07" + s[3:],
		"no kind":       s[:2] + "\x00" + s[3:],
		"fourth byte":   s[:3] + "\x01" + s[4:],
		"form and sum":  "p" + s[1:100] + "x" + s[101:],
		"right but one": summed("PG\x08\x00" + s[4:508]),
		"summed fourth": summed("PH\x08\x02" + s[4:508]),
	} {
		if b, err := mark.Open(mark.Page, x); b != "" || err != api.ErrForm {
			t.Errorf("%s: %q %v", name, b, err)
		}
		if k := mark.Kind(x); k != 0 {
			t.Errorf("%s: the kind %d", name, k)
		}
	}
	none := summed("PH\x00\x00" + s[4:508])
	if b, err := mark.Open(0, none); b != "" || err != api.ErrForm || mark.Kind(none) != 0 {
		t.Errorf("the kind 0: %q %v", b, err)
	}
}

// summed: bytes with their sum behind.
func summed(ahead string) string {
	n := bitwise(ahead)
	return ahead + string([]byte{byte(n), byte(n >> 8), byte(n >> 16), byte(n >> 24)})
}

// P3.2: a wrong sum.
func TestOpenSum(t *testing.T) {
	s := seal(t, mark.Page, "ab")
	for _, at := range []int{4, 5, 100, 507, 508, 509, 510, 511} {
		x := s[:at] + string([]byte{s[at] ^ 0x10}) + s[at+1:]
		if b, err := mark.Open(mark.Page, x); b != "" || err != api.ErrSum || mark.Kind(x) != 0 {
			t.Errorf("changed at %d: %q %v", at, b, err)
		}
		if _, err := mark.Open(mark.Meta, x); err != api.ErrForm {
			t.Errorf("the form is told first: %v", err)
		}
	}
	// The sum's bytes stand the lowest first, and no other way.
	turned := s[:508] + string([]byte{s[511], s[510], s[509], s[508]})
	if _, err := mark.Open(mark.Page, turned); err != api.ErrSum {
		t.Error(err)
	}
}

// P3.3: every change of one byte.
func TestOneByteChanged(t *testing.T) {
	s := seal(t, mark.Inode, everyByte())
	b := []byte(s)
	for at := range b {
		for x := 1; x < 256; x++ {
			b[at] = s[at] ^ byte(x)
			if !refused(string(b)) {
				t.Fatalf("byte %d, changed by %x, is opened", at, x)
			}
		}
		b[at] = s[at]
	}
}

// P3.3: changes of two to four bytes in a row, at every place.
func TestBytesInARowChanged(t *testing.T) {
	r := rand.New(rand.NewSource(2))
	s := seal(t, mark.Commit, everyByte())
	for n := 2; n <= 4; n++ {
		for at := 0; at+n <= len(s); at++ {
			for range 30 {
				b := []byte(s)
				for i := at; i < at+n; i++ {
					b[i] ^= byte(1 + r.Intn(255))
				}
				if !refused(string(b)) {
					t.Fatalf("%d bytes from %d on, changed to %x, are opened", n, at, b[at:at+n])
				}
			}
		}
	}
}

// refused: is it opened as no kind, neither as the one that it tells?
func refused(s string) bool {
	_, err := mark.Open(int(s[2]), s)
	return err != nil && mark.Kind(s) == 0
}
